import Derived.Test.YtgamgomepdfgdaaGreatEM48
set_option maxRecDepth 100000
set_option maxHeartbeats 8000000
namespace Go.Proofs.YtgamgomepdfgdaaGreat
open Go.RowKit Go.Proofs.Tryz
theorem BoolsAt.first {w:World}{ba:Option Addr}{bl:List Bool}(h:BoolsAt w ba bl)(n:Nat):BoolsAt w ba (bl.take n):=by
  rcases h with h|⟨b,off,e,hl,hc⟩
  · exact .inl (by rw[h];exact List.take_nil)
  · refine .inr ⟨b,off,e,hl,λi hi=>?_⟩
    rw[List.length_take] at hi
    rw[List.getElem_take]
    exact hc i (by omega)
theorem law_blame (n0 n1 n2 n3 n4 n5 n6:Int)(bl:List Bool)(ba:Option Addr)(bc:Nat)(w:World)(h0:-9223372036854775808<=n0/\n0<9223372036854775808)(h1:-9223372036854775808<=n1/\n1<9223372036854775808)(h2:-9223372036854775808<=n2/\n2<9223372036854775808)(h3:-9223372036854775808<=n3/\n3<9223372036854775808)(h4:-9223372036854775808<=n4/\n4<9223372036854775808)(h5:-9223372036854775808<=n5/\n5<9223372036854775808)(h6:-9223372036854775808<=n6/\n6<9223372036854775808)(hbl:BoolsAt w ba bl)(hcap:bl.length<=bc)(hbc:bc<9223372036854775808):
    Calls prog 7 #[.agg #[.int .i64 n0,.int .i64 n1,.int .i64 n2,.int .i64 n3,.int .i64 n4,.int .i64 n5,.int .i64 n6],.slice ba bl.length bc] w λe w'=>e=.returned (.bool true)/\Below w.heap.size w w':=by
  have hb0:=below_new w (.cells #[.int .i64 n0,.int .i64 n1,.int .i64 n2,.int .i64 n3,.int .i64 n4,.int .i64 n5,.int .i64 n6] 23)
  have hB0:=Bx.new w #[.int .i64 n0,.int .i64 n1,.int .i64 n2,.int .i64 n3,.int .i64 n4,.int .i64 n5,.int .i64 n6] 23
  have hT:=λw=>law_settings n0 n1 n2 n3 n4 n5 n6 w h0 h1 h2 h3 h4 h5 h6
  clear h0 h1 h2 h3 h4 h5 h6
  unfold SettingsGive at hT
  go_enter func7,ntmps7
  go_wp2_with fail
  go_fit (hT _)
  rintro e w1 ⟨⟨c,hc,rfl⟩,hb1⟩
  have HC:Hid c.Ok:=hc
  have hB1:Bx w1 w.heap.size 23 #[.int .i64 n0,.int .i64 n1,.int .i64 n2,.int .i64 n3,.int .i64 n4,.int .i64 n5,.int .i64 n6]:=(hb1.block _ hB0.lt).trans hB0
  have eC:(c.cells.toArray:Array Value)=#[.int .i64 c.lanes,.int .i64 c.age,.int .i64 c.batch,.int .i64 c.window,.int .i64 c.retries,.int .i64 c.deadline,.int .i64 c.queue]:=rfl
  rw[eC]
  clear eC hT hc
  have x0:=hB1.c 0 (.int .i64 n0)
  have x1:=hB1.c 1 (.int .i64 n1)
  have x2:=hB1.c 2 (.int .i64 n2)
  have x3:=hB1.c 3 (.int .i64 n3)
  have x4:=hB1.c 4 (.int .i64 n4)
  have x5:=hB1.c 5 (.int .i64 n5)
  have x6:=hB1.c 6 (.int .i64 n6)
  have y0:=hB1.fr 0
  have y1:=hB1.fr 1
  have y2:=hB1.fr 2
  have y3:=hB1.fr 3
  have y4:=hB1.fr 4
  have y5:=hB1.fr 5
  have y6:=hB1.fr 6
  obtain⟨w2,hw2⟩:∃x,x=cfgSt w1 w.heap.size c:=⟨_,rfl⟩
  have hB2:Bx w2 w.heap.size 23 #[.int .i64 c.lanes,.int .i64 c.age,.int .i64 c.batch,.int .i64 c.window,.int .i64 c.retries,.int .i64 c.deadline,.int .i64 c.queue]:=by rw[hw2];exact cfg_st hB1 c
  have HB2:=hd' hB2
  have Hb2:Hid (Below w.heap.size w w2):=by show Below _ _ _;rw[hw2];exact cfg_below (hb0.trans (hb1.mono hb0.size)) (Nat.le_refl _) c
  have hP:=law_player c w2 HC.out
  unfold PlayerGives at hP
  unfold cfgSt at hw2
  have Hw2:=hd' hw2
  clear hb0 hB0 hb1 hB1 hB2 hw2
  go_wp2_with fail
  rw[<-Hw2.out]
  clear Hw2 x0 x1 x2 x3 x4 x5 x6 y0 y1 y2 y3 y4 y5 y6 w1
  go_fit hP
  rintro e w3 ⟨pb,xb,rfl,hE⟩
  clear hP
  obtain⟨n,hn⟩:∃n,n=min bl.length c.queue:=⟨_,rfl⟩
  have hq16:=HC.out.2.2.2.2.2.2
  have hn16:n<=16:=by omega
  have hnq:n<=c.queue:=by omega
  have hnl:n<=bl.length:=by omega
  have HBl:Hid (BoolsAt w2 ba (bl.take n)):=(hbl.later Hb2.out).first n
  have Htl:Hid ((bl.take n).length=n):=by show _=_;rw[List.length_take];omega
  have Hb0:Hid (badOf (bl.take n) 1000000=false):=by
    show _=_
    unfold badOf
    rw[List.getD_eq_getElem?_getD,List.getElem?_eq_none (by have:=Htl.out;omega)]
    rfl
  have HS0:Hid (SubAt w2 w3 pb xb c (badOf (bl.take n)) 0):=sub_zero _ hE
  have q3:w3.cell? ⟨w.heap.size,6,none⟩=some (.int .i64 c.queue):=jcell_after HS0.out.below (HB2.out.cell (i:=6) rfl)
  have Hn:=hd' hn
  clear hE hn hbl
  go_upto_if 27 with fail
  go_cut [6] from 16 (λt wz=>t=.int .i64 (n:Nat)/\w3=wz)
  case first=>
    by_cases hk:(c.queue:Int)<(bl.length:Int)
    · have He:Hid ((n:Int)=c.queue):=by show _=_;have:=Hn.out;omega
      go_wp2_with fail
      go_meet
      case rel=>exact⟨by rw[He.out]<;>rfl,rfl⟩
    · have He:Hid ((n:Int)=bl.length):=by show _=_;have:=Hn.out;omega
      go_wp2_with fail
      go_meet
      case rel=>exact⟨by rw[He.out]<;>rfl,rfl⟩
  case rest=>
    obtain⟨rfl,rfl⟩:=hcut
    clear q3 Hn
    go_wp2_with fail
    go_loopw [7] (λkv wr=>∃k:Nat,k<=n/\kv=.int .i64 k/\Hid (SubAt w2 wr pb xb c (badOf (bl.take n)) k)) (λkv _=>n-(intOf kv).toNat)
    case atStart=>exact⟨0,Nat.zero_le _,rfl,HS0⟩
    case round=>
      obtain⟨k,hk,rfl,HS⟩:=hrel
      clear HS0
      by_cases hlt:k<n
      · have hsu:=λo=>bl_sub2 o HS.out (show k<c.queue by omega) HC.out
        have hk26:k<26:=by omega
        clear HS
        go_wp2_with (go_at_call 22;refine(path_any k hk26 _).mono ?_;rintro e w' ⟨rfl,rfl⟩)
        go_fit (hsu _)
        rintro e w4 ⟨rfl,h4⟩
        have H4:=hd' h4
        clear hsu h4
        go_wp2_with fail
        go_roundw
        case rel=>exact⟨k+1,hlt,by go_num,H4⟩
        case measure=>simp[intOf];omega
      · obtain rfl:k=n:=by omega
        have hV:=bl_start HS.out
        obtain⟨R,hR⟩:∃R,R=c.retries:=⟨_,rfl⟩
        have hR3:R<=3:=by rw[hR];exact HC.out.2.2.2.2.1
        obtain⟨N,hN⟩:∃N,N=(R+1)*2*k:=⟨_,rfl⟩
        have hN128:N<=128:=by
          rw[hN]
          exact Nat.le_trans (Nat.mul_le_mul (Nat.mul_le_mul_right 2 (show R+1<=4 by omega)) hn16) (by decide)
        rw[<-hR,<-hN] at hV
        have hw3:IntKind.i64.wrap (((R:Int)+1)*2*(k:Int))=(N:Int):=by
          have e:((R:Int)+1)*2*(k:Int)=(N:Int):=by rw[hN];push_cast;rfl
          rw[e]
          exact wrap_i64 (by omega) (by omega)
        have HR4:Hid (∀W,Below w2.heap.size w2 W->W.cell? ⟨w.heap.size,4,none⟩=some (.int .i64 R)):=λW hW=>by
          have:=jcell_after hW (HB2.out.c 4 (.int .i64 c.retries))
          rw[hR];exact this
        have hpu:=bl_pump hV HC.out (by omega)
        clear HS hlt hR hN hV
        go_wp2_with fail
        go_fit hpu
        rintro e w4 ⟨rfl,d,h4⟩
        have hde:=bl_decided h4 HC.out (by omega)
        have H4:Hid (BlAt w2 w4 pb xb c pB (badOf (bl.take k)) k (N-0) (6+2*k+2*0) d):=by
          have e:6+2*k+2*0=5+2*k+1:=by omega
          show BlAt _ _ _ _ _ _ _ _ _ _ _
          rw[e];exact h4
        clear hpu h4
        go_wp2_with fail
        go_fit hde
        rintro e w4' ⟨rfl,e1⟩
        have e1:w4'=w4:=e1
        subst e1
        clear hde
        go_wp2_with fail
        go_loopw [9,10,11] (λov dv iv wr=>∃(i:Nat) (d:Bool),i<=N/\ov=.bool true/\dv=.bool d/\iv=.int .i64 i/\Hid (BlAt w2 wr pb xb c pB (badOf (bl.take k)) k (N-i) (6+2*k+2*i) d)) (λ_ _ iv _=>N-(intOf iv).toNat)
        case atStart=>exact⟨0,d,Nat.zero_le _,rfl,rfl,rfl,H4⟩
        case round=>
          obtain⟨i,d,hi,rfl,rfl,rfl,HB⟩:=hrel
          clear H4
          have r4:=HR4.out wr HB.out.below
          cases d
          · have hNi:=bl_busy HB.out
            have hlt:i<N:=by omega
            have hve:=bl_verdict (bc:=bc) HB.out HC.out (by omega) (HBl.out.later HB.out.below) (by have:=Htl.out;omega)
            rw[Htl.out] at hve
            clear hNi HB
            go_wp2_with fail
            go_fit hve
            rintro e w5 ⟨rfl,_,h5⟩
            have hpu:=bl_pump h5 HC.out (by omega)
            clear hve h5 r4
            go_wp2_with fail
            go_fit hpu
            rintro e w6 ⟨rfl,d6,h6⟩
            have hde:=bl_decided h6 HC.out (by omega)
            have H6:Hid (BlAt w2 w6 pb xb c pB (badOf (bl.take k)) k (N-(i+1)) (6+2*k+2*(i+1)) d6):=by
              have e:6+2*k+2*(i+1)=6+2*k+2*i+1+1:=by omega
              show BlAt _ _ _ _ _ _ _ _ _ _ _
              rw[e,show N-(i+1)=N-i-1 by omega];exact h6
            clear hpu h6
            go_wp2_with fail
            go_fit hde
            rintro e w6' ⟨rfl,e1⟩
            have e1:w6'=w6:=e1
            subst e1
            clear hde
            go_wp2_with fail
            go_roundw
            case rel=>exact⟨i+1,d6,hlt,rfl,rfl,by go_num,H6⟩
            case measure=>simp[intOf];omega
          · obtain⟨σ,p,⟨U,u1,u2,u3⟩,hEn,hkl,hll⟩:=bl_end HB.out HC.out (by omega) Hb0.out
            obtain⟨X,RR,V,v,hP,hL,hap,hU⟩:=u1.ex
            obtain⟨wo,hwo⟩:∃x,x=wr:=⟨wr,rfl⟩
            subst hwo
            have HF:Hid (Below w.heap.size w wo):=Hb2.out.trans (u2.mono Hb2.out.size)
            obtain⟨la,lc,elv⟩:=hL.lr.form
            have c11:wo.cell? ⟨pb,11,none⟩=some (.slice la p.landed.length lc):=by rw[<-elv];exact hL.bx.cell (i:=11) rfl
            have hlen:v.ks.length=p.known.length:=by rw[<-hL.ks,List.length_map]
            obtain⟨ka,kc,ekv⟩:=hL.kr.form
            have c8:wo.cell? ⟨pb,8,none⟩=some (.slice ka p.known.length kc):=by rw[<-hlen,<-ekv];exact hL.bx.cell (i:=8) rfl
            have HLd:Hid (∀q z,p.landed[q]? =some z->∃g off,la=some ⟨g,off,none⟩/\wo.cell? ⟨g,off+q,none⟩=some (.int .i64 (z:Nat))):=λq z hz=>by
              have hlr:=hL.lr
              rw[elv] at hlr
              have hq:=(List.getElem?_eq_some_iff.1 hz).1
              obtain⟨g,off,cap,e1,_⟩:=hlr.addr (by omega)
              cases e1
              exact⟨g,off,rfl,hlr.cell (j:=q) (by rw[List.getElem?_map,hz];rfl)⟩
            have HKd:Hid (∀i (hi:i<p.known.length),∃g off,ka=some ⟨g,off,none⟩/\wo.cell? ⟨g,off+i*3+1,none⟩=some (.int .i64 (p.known[i].kind:Nat))):=λi hi=>by
              have hiv:i<v.ks.length:=by omega
              have hkr:=hL.kr
              rw[ekv] at hkr
              obtain⟨g,off,cap,e1,_⟩:=hkr.addr (by omega)
              cases e1
              refine⟨g,off,rfl,?_⟩
              have h0:wo.cell? ⟨g,off+i*3+1,none⟩=some (.int .i64 ((v.ks[i]).1.kind:Nat)):=hkr.at_ (f:=cKn) (λ_=>rfl) hiv 1 rfl
              rw[h0]
              have:(v.ks[i]).1=p.known[i]:=by
                have e:(v.ks.map Prod.fst)[i]'(by rw[List.length_map];exact hiv)=p.known[i]:=by simp only[hL.ks]
                rw[<-e,List.getElem_map]
              rw[this]
            have HBd:Hid (∀q,q<k->∃g off,ba=some ⟨g,off,none⟩/\wo.cell? ⟨g,off+q,none⟩=some (.bool (badOf (bl.take k) (q+1)))):=λq hq=>by
              rcases HBl.out.later u2 with h1|⟨g,off,e,_,hc⟩
              · have h2:=Htl.out
                rw[h1] at h2
                have:0=k:=h2
                omega
              · refine⟨g,off,e,?_⟩
                rw[hc q (by rw[Htl.out];exact hq)]
                unfold badOf
                rw[List.getD_eq_getElem?_getD,Nat.add_sub_cancel,List.getElem?_eq_getElem (by rw[Htl.out];exact hq)]
                simp
            have HFi:Hid (∀m (id:Int),Calls prog 25 #[.pointer (some ⟨pb,0,none⟩),.int .i64 id] (wo.drewN m) λe w'=>FindRes e p.known id/\w'=wo.drewN m):=λm id=>pl_find RR V pb xb c p v id _ (hL.later (Drew.one wo m).below) (by omega)
            have HLa:Hid (p.landed.length=landN (badOf (bl.take k)) k):=by show _=_;rw[hEn.land];rfl
            have HEn:=hd' hEn
            have HZ:Hid (1=landN (badOf (bl.take k)) 0):=by
              show _=_
              unfold landN
              simp[Hb0.out]
            generalize badOf (bl.take k)=bad at *
            clear HB u1 u2 u3 hP hL hap hU elv ekv hlen hEn HBl Htl Hb0 HR4 Hb2
            by_cases hiN:i<N
            all_goals
              go_wp2_with fail
              go_loopw [13,14] (λav kv wr=>∃q m a:Nat,q<=k/\kv=.int .i64 q/\av=.int .i64 a/\Hid (a=landN bad q)/\a<=q+1/\wr=wo.drewN m) (λ_ kv _=>k-(intOf kv).toNat)
              case atStart=>exact⟨0,0,1,Nat.zero_le _,rfl,rfl,HZ.out,Nat.le_refl _,rfl⟩
              case round=>
                obtain⟨q,m,a,hq,rfl,rfl,HA,haq,ew⟩:=hrel
                have ew:wr=wo.drewN m:=ew
                subst ew
                by_cases hlq:q<k
                · have hfi:=HFi.out m ((q:Int)+1)
                  go_wp2_with fail
                  go_fit hfi
                  rintro e w9 ⟨hFr,e1⟩
                  have e1:w9=wo.drewN m:=e1
                  subst e1
                  clear hfi
                  rcases hFr with ⟨i',k',hk',hid',rfl⟩|⟨hno,rfl⟩
                  · obtain⟨hi',hie⟩:=List.getElem?_eq_some_iff.1 hk'
                    have hid2:k'.id=q+1:=by omega
                    have hkd:=HEn.out.kind k' (List.mem_of_getElem? hk') (by omega) (by omega)
                    rw[hid2] at hkd
                    obtain⟨gk,ok,rfl,ck⟩:=HKd.out i' hi'
                    rw[hie,hkd] at ck
                    obtain⟨gb,ob,rfl,cb⟩:=HBd.out q hlq
                    have Hnx:=hd' (landN_next bad q)
                    have HLt:Hid (bad (q+1)=false->p.landed[a]? =some (q+1)):=λh=>by
                      have:=landN_at hlq h
                      rw[HA.out,HEn.out.land];exact this
                    cases hbv:bad (q+1)
                    · rw[hbv] at ck cb
                      have ck:wo.cell? ⟨gk,ok+i'*3+1,none⟩=some (.int .i64 1):=ck
                      have hla:=HLt.out hbv
                      have hal:=(List.getElem?_eq_some_iff.1 hla).1
                      obtain⟨gl,ol,rfl,cl⟩:=HLd.out a (q+1) hla
                      have HA2:Hid (a+1=landN bad (q+1)):=by show _=_;rw[Hnx.out,hbv,HA.out];rfl
                      have hd1:decide ((p.landed.length:Int)<=(a:Int))=false:=decide_eq_false (by omega)
                      have cl:wo.cell? ⟨gl,ol+a,none⟩=some (.int .i64 ((q:Int)+1)):=by rw[cl];rfl
                      clear hla HLt Hnx hk' hid' hid2 hkd hie hbv
                      generalize p.landed.length=LL at *
                      go_wp2_with fail
                      go_quiet (fail)
                      go_wp2
                      exact⟨⟨q+1,_,a+1,hlq,by go_num,by go_num,HA2,by omega,rfl⟩,by simp[intOf];omega⟩
                    · rw[hbv] at ck cb
                      have ck:wo.cell? ⟨gk,ok+i'*3+1,none⟩=some (.int .i64 2):=ck
                      have HA2:Hid (a=landN bad (q+1)):=by show _=_;rw[Hnx.out,hbv,HA.out];rfl
                      clear HLt Hnx hk' hid' hid2 hkd hie hbv
                      go_wp2_with fail
                      go_quiet (fail)
                      go_wp2
                      exact⟨⟨q+1,_,a,hlq,by go_num,rfl,HA2,by omega,rfl⟩,by simp[intOf];omega⟩
                  · obtain⟨k0,hk0,e0⟩:=HEn.out.has (q+1) (by omega) (by omega)
                    exact absurd (by omega) (hno k0 hk0)
                · obtain rfl:q=k:=by omega
                  have hae:p.landed.length=a:=by rw[HLa.out,HA.out]
                  rw[hae] at c11
                  have HF2:Hid (Below w.heap.size w (wo.drewN m)):=HF.out.trans ((Drew.one wo m).below.mono HF.out.size)
                  clear hae HLa HLd HKd HBd HFi HEn HF
                  go_wp2
                  go_ret
                  exact⟨rfl,HF2.out⟩
end Go.Proofs.YtgamgomepdfgdaaGreat
