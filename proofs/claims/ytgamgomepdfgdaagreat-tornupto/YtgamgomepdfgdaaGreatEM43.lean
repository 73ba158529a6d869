import Derived.Test.YtgamgomepdfgdaaGreatEM42
set_option maxRecDepth 100000
set_option maxHeartbeats 8000000
namespace Go.Proofs.YtgamgomepdfgdaaGreat
open Go.RowKit Go.Proofs.Tryz
theorem law_torn_pump (n0 n1 n2 n3 n4 n5 n6:Int)(sv:Value)(xs:List Sa)(keep:Int)(w:World)(h0:-9223372036854775808<=n0/\n0<9223372036854775808)(h1:-9223372036854775808<=n1/\n1<9223372036854775808)(h2:-9223372036854775808<=n2/\n2<9223372036854775808)(h3:-9223372036854775808<=n3/\n3<9223372036854775808)(h4:-9223372036854775808<=n4/\n4<9223372036854775808)(h5:-9223372036854775808<=n5/\n5<9223372036854775808)(h6:-9223372036854775808<=n6/\n6<9223372036854775808)(hkp:-9223372036854775808<=keep/\keep<9223372036854775808)(hsv:Script w sv xs)(hok:∀a∈xs,a.Ok w)(hlen:xs.length<200000):
    Calls prog 9 #[.agg #[.int .i64 n0,.int .i64 n1,.int .i64 n2,.int .i64 n3,.int .i64 n4,.int .i64 n5,.int .i64 n6],sv,.int .i64 keep,.bool true] w λe w'=>e=.returned (.bool true)/\Below w.heap.size w w':=by
  obtain⟨sa,sc,rfl,hS⟩:=hsv
  have hb0:=below_new w (.cells #[.int .i64 n0,.int .i64 n1,.int .i64 n2,.int .i64 n3,.int .i64 n4,.int .i64 n5,.int .i64 n6] 23)
  have hB0:=Bx.new w #[.int .i64 n0,.int .i64 n1,.int .i64 n2,.int .i64 n3,.int .i64 n4,.int .i64 n5,.int .i64 n6] 23
  have hT:=λw=>law_settings n0 n1 n2 n3 n4 n5 n6 w h0 h1 h2 h3 h4 h5 h6
  clear h0 h1 h2 h3 h4 h5 h6
  unfold SettingsGive at hT
  go_enter func9,ntmps9
  go_wp2_with fail
  go_fit (hT _)
  rintro e w1 ⟨⟨c,hc,rfl⟩,hb1⟩
  have HC:Hid c.Ok:=hc
  have hB1:Bx w1 w.heap.size 23 #[.int .i64 n0,.int .i64 n1,.int .i64 n2,.int .i64 n3,.int .i64 n4,.int .i64 n5,.int .i64 n6]:=(hb1.block _ hB0.lt).trans hB0
  have eC:(c.cells.toArray:Array Value)=#[.int .i64 c.lanes,.int .i64 c.age,.int .i64 c.batch,.int .i64 c.window,.int .i64 c.retries,.int .i64 c.deadline,.int .i64 c.queue]:=rfl
  rw[eC]
  clear eC hT hc
  have x0:=hB1.c 0 (.int .i64 n0)
  have x1:=hB1.c 1 (.int .i64 n1)
  have x2:=hB1.c 2 (.int .i64 n2)
  have x3:=hB1.c 3 (.int .i64 n3)
  have x4:=hB1.c 4 (.int .i64 n4)
  have x5:=hB1.c 5 (.int .i64 n5)
  have x6:=hB1.c 6 (.int .i64 n6)
  have y0:=hB1.fr 0
  have y1:=hB1.fr 1
  have y2:=hB1.fr 2
  have y3:=hB1.fr 3
  have y4:=hB1.fr 4
  have y5:=hB1.fr 5
  have y6:=hB1.fr 6
  obtain⟨w2,hw2⟩:∃x,x=cfgSt w1 w.heap.size c:=⟨_,rfl⟩
  have hB2:Bx w2 w.heap.size 23 #[.int .i64 c.lanes,.int .i64 c.age,.int .i64 c.batch,.int .i64 c.window,.int .i64 c.retries,.int .i64 c.deadline,.int .i64 c.queue]:=by rw[hw2];exact cfg_st hB1 c
  have HB2:=hd' hB2
  have Hb2:Hid (Below w.heap.size w w2):=by show Below _ _ _;rw[hw2];exact cfg_below (hb0.trans (hb1.mono hb0.size)) (Nat.le_refl _) c
  have hP:=law_player c w2 HC.out
  unfold PlayerGives at hP
  unfold cfgSt at hw2
  have Hw2:=hd' hw2
  clear hb0 hB0 hb1 hB1 hB2 hw2
  go_wp2_with fail
  rw[<-Hw2.out]
  clear Hw2 x0 x1 x2 x3 x4 x5 x6 y0 y1 y2 y3 y4 y5 y6 w1
  go_fit hP
  rintro e w3 ⟨pb,xb,rfl,hE⟩
  clear hP
  have HE2:Hid (EvAt w2 w3 pb xb c 5):=hE.ev
  have hS:=Script.later hS Hb2.out
  have Hok:Hid (∀a∈xs,a.Ok w2):=λa ha=>(hok a ha).later Hb2.out
  clear hE hok
  go_wp2_with fail
  go_loopw [10] (λiv wr=>∃i:Nat,i<=xs.length/\iv=.int .i64 i/\Hid (EvAt w2 wr pb xb c (5+2*i))) (λi _=>xs.length-(intOf i).toNat)
  case atStart=>exact⟨0,Nat.zero_le _,rfl,HE2.out⟩
  case round=>
    obtain⟨i,hin,rfl,HE⟩:=hrel
    clear HE2
    by_cases hlt:i<xs.length
    · have hAo:=Hok.out xs[i] (List.getElem_mem hlt)
      rcases hS with rfl|⟨b,off,rfl,hbl,hcl⟩
      · simp at hlt
      have kk:∀j (u:Value),(cSa xs[i])[j]? =some u->wr.cell? ⟨b,off+i*5+j,none⟩=some u:=λj u hu=>jcell_after HE.out.below (hcl i hlt j u hu)
      have d0:wr.cell? ⟨b,off+i*5,none⟩=some (.int .i64 xs[i].kind):=kk 0 _ rfl
      have d1:=kk 1 (.int .i64 xs[i].id) rfl
      have d2:=kk 2 (.int .i64 xs[i].lane) rfl
      have d3:=kk 3 (.bool xs[i].pass) rfl
      have d4:=kk 4 (.slice xs[i].ea xs[i].es.length xs[i].ec) rfl
      have hA:=ev_act HE.out HC.out (by omega) xs[i] hAo
      clear kk hAo hcl
      generalize xs[i].kind=z0 at *
      generalize xs[i].id=z1 at *
      generalize xs[i].lane=z2 at *
      generalize xs[i].pass=z3 at *
      generalize xs[i].es.length=z4 at *
      generalize xs[i].ea=z5 at *
      generalize xs[i].ec=z6 at *
      go_wp2_with fail
      go_fit hA
      rintro e w4 ⟨rfl,h4⟩
      have H4:Hid (EvAt w2 w4 pb xb c (5+2*(i+1))):=h4
      clear hA h4 d0 d1 d2 d3 d4
      go_wp2_with fail
      go_roundw
      case rel=>exact⟨i+1,hlt,by go_num,H4.out⟩
      case measure=>simp[intOf];omega
    · obtain⟨σ,p,U,g1,g2,g3,hG,hK,hbd⟩:=HE.out
      have hT0:Tn w2 wr pb xb c σ p:=⟨U,g1,g2,g3⟩
      have hn0:σ.rs.length<1000000:=by unfold bud at hbd;omega
      have hlog:=hT0.log hG.g.ok HC.out (by omega)
      rw[hG.g.ok.upT hG.g.up,List.append_nil] at hlog
      have hqu:=hT0.queue hG.g.ok HC.out (by omega)
      have b0:=hT0.cell
      have hinv:=hG.g.ok.fits.inv HC.out
      have Hql:Hid ((tellQ c.age (Ts.all c g0 σ.rs).queue).length=(σ.ts c).queue.length):=tellQ_len λx hx=>by have:=(hinv.1.top x hx).2.1;have:=HC.out.1.2;omega
      have hq16:(σ.ts c).queue.length<=16:=Nat.le_trans hinv.1.len HC.out.2.2.2.2.2.2.2
      have HG:=hd' hG
      have HK:=hd' hK
      have Hbd:=hd' hbd
      have hup:=hG.g.up
      have Hal:Hid ((allB σ.rs).length<2000000000):=Nat.lt_of_le_of_lt (allB_len (hG.g.ok.fits.ok HC.out)) (by omega)
      clear HE hS hT0 g1 g2 g3 hG hK hbd hinv Hok
      go_wp2_with fail
      refine hlog.mono ?_
      rintro e wl ⟨rfl,e1⟩
      have e1:wl=wr:=e1
      subst e1
      clear hlog
      go_wp2_with fail
      refine hqu.mono ?_
      rintro e w4 ⟨hQ,hb4,hT4⟩
      rcases hQ with ⟨_,qv,rfl,hrow⟩|⟨hu,_⟩
      · obtain⟨qa,qc,rfl⟩:=(Sl.of_row hrow).form
        rw[Hql.out]
        have hbr:=hT4.brk hup keep
        have b4:=hT4.cell
        clear hqu hrow hb4 hT4 b0
        generalize (σ.ts c).queue.length=ql at *
        go_wp2_with fail
        refine hbr.mono ?_
        rintro _ w5 ⟨rfl,hT5⟩
        have b5:=hT5.cell
        clear hbr b4
        have hTG:=torn_gd keep true HG.out HK.out HC.out (λh=>by cases h)
        have hpu:=hT5.pumpT hup hTG.okb HC.out (by omega)
        clear hT5
        go_wp2_with fail
        refine hpu.mono ?_
        rintro _ w6 ⟨rfl,hT6⟩
        clear hpu b5
        have TB:=torn_bytes σ keep (tR true)
        rw[tR_len] at TB
        have TB:TornB (allB σ.rs) (allB (σ.torn keep (tR true)).rs++(σ.torn keep (tR true)).T) (allB ((σ.torn keep (tR true)).rs++[rc7])) (cut keep 9) 9:=TB
        have hlt6:(σ.torn keep (tR true)).rs.length<1048576:=by have:=hTG.lt;omega
        have hl6:=hT6.log hTG.okt HC.out hlt6
        have hre:=hT6.recover hTG.okt HC.out hlt6
        have hl7:∀W,Tn w2 W pb xb c (σ.back keep (tR true)) p->Calls prog 28 #[.pointer (some ⟨xb,0,none⟩)] W λe w'=>e=.returned (.string (bs (allB ((σ.torn keep (tR true)).rs++[rc7]))))/\w'=W:=λW hW=>by
          have:=hW.log hTG.okr HC.out (by show ((σ.torn keep (tR true)).rs++[rc7]).length<_;rw[List.length_append];have:=hTG.lt;show _+1<_;omega)
          have e:allB (σ.back keep (tR true)).rs++(σ.back keep (tR true)).T=allB ((σ.torn keep (tR true)).rs++[rc7]):=List.append_nil _
          rw[e] at this
          exact this
        have Hl7:=hd' hl7
        have hwh:whole keep true=(cut keep 9==9):=rfl
        have Hend:Hid (∀W,Tn w2 W pb xb c (σ.back keep (tR true)) (p.torn (!true&&whole keep true))->Calls prog 33 #[.pointer (some ⟨pb,0,none⟩)] W λe w1=>e=.returned (.bool true)/\
      Calls prog 20 #[.pointer (some ⟨pb,0,none⟩)] w1 λe w4=>e=.returned (.bool true)/\
        Calls prog 34 #[.pointer (some ⟨pb,0,none⟩)] w4 λe w3=>e=.returned (.bool true)/\Below w2.heap.size w2 w3):=λW hW=>tn_end hW hTG.gd hTG.nt HC.out hTG.bud (by have:=Hbd.out;omega)
        rw[hwh] at Hend
        have b6:=hT6.cell
        have hBl:=Hal.out
        have HT6:=hd' hT6
        clear hTG hlt6 hl7 hT6 Hal hwh Hbd Hql
        generalize allB (σ.torn keep (tR true)).rs++(σ.torn keep (tR true)).T=TBs at *
        generalize allB ((σ.torn keep (tR true)).rs++[rc7])=ABs at *
        generalize allB σ.rs=Bs at *
        have hcs:cut keep 9=(max 0 (min keep 9)).toNat:=rfl
        have hc9:cut keep 9<=9:=by rw[hcs];omega
        have Hc1:Hid (min (max 0 keep) 9=((cut keep 9:Nat):Int)):=by show _=_;rw[hcs];omega
        clear hcs
        generalize cut keep 9=n at *
        go_upto_if 113 with fail
        go_cut [18] from 30 (λt wz=>t=.int .i64 (max 0 keep)/\w6=wz)
        case first=>
          by_cases hk:keep<0
          · have He:Hid (max 0 keep=0):=by show _=_;omega
            go_wp2_with fail
            go_meet
            case rel=>exact⟨by rw[He.out]<;>rfl,rfl⟩
          · have He:Hid (max 0 keep=keep):=by show _=_;omega
            go_wp2_with fail
            go_meet
            case rel=>exact⟨by rw[He.out]<;>rfl,rfl⟩
        case rest=>
          obtain⟨rfl,rfl⟩:=hcut
          generalize max 0 keep=km at *
          go_upto_if 116 with fail
          go_cut [18] from 30 (λt wz=>t=.int .i64 (n:Nat)/\w6=wz)
          case first=>
            have hn:=Hc1.out
            by_cases hk:9<km
            · have He:Hid ((n:Int)=9):=by show _=_;omega
              clear hn
              go_wp2_with fail
              go_meet
              case rel=>exact⟨by rw[He.out]<;>rfl,rfl⟩
            · have He:Hid ((n:Int)=km):=by show _=_;omega
              clear hn
              go_wp2_with fail
              go_meet
              case rel=>exact⟨by rw[He.out]<;>rfl,rfl⟩
          case rest=>
            obtain⟨rfl,rfl⟩:=hcut
            clear Hc1
            have hsz:(bs TBs).size=(bs Bs).size+n:=TB.lt
            have hBsz:(bs Bs).size<2000000000:=hBl
            have hex:(bs TBs).extract 0 (bs Bs).size=bs Bs:=by rw[bs_take,bs_size,TB.pre]
            have HTB:=hd' TB
            clear TB hBl
            generalize hvB:bs Bs=vB at *
            generalize hvT:bs TBs=vT at *
            have HvB:=hd' hvB
            have HvT:=hd' hvT
            clear hvB hvT
            go_wp2_with fail
            refine hl6.mono ?_
            rintro e wl ⟨rfl,e1⟩
            have e1:wl=w6:=e1
            subst e1
            clear hl6
            go_wp2_with fail
            refine hre.mono ?_
            rintro _ w7 ⟨rfl,hT7⟩
            have b7:=hT7.cell
            have hl7:=Hl7.out w7 hT7
            have HT7:=hd' hT7
            clear hre b6 hT7 Hl7 hex hsz HT6
            go_wp2_with fail
            refine hl7.mono ?_
            rintro e wm ⟨rfl,e1⟩
            have e1:wm=w7:=e1
            subst e1
            clear hl7
            have hA0:(bs ABs).size=(if n=9 then vB.size+9 else vB.size)+9:=by rw[<-HvB.out];exact HTB.out.la
            have hX0:(bs ABs).extract 0 (if n=9 then vB.size+9 else vB.size)=vT.extract 0 (if n=9 then vB.size+9 else vB.size):=by
              rw[bs_take,<-HvT.out,bs_take]
              have:=HTB.out.eq
              rw[<-HvB.out,bs_size,this]
            have hT0:vT.size=vB.size+n:=by rw[<-HvT.out,<-HvB.out];exact HTB.out.lt
            by_cases hw:n=9
            · rw[if_pos hw] at hA0 hX0
              subst hw
              obtain⟨kp,hkq⟩:∃k,k=vB.size+9:=⟨_,rfl⟩
              have Hkq:Hid (((vB.size:Nat):Int)+9=((kp:Nat):Int)):=by show _=_;omega
              rw[<-hkq] at hA0 hX0
              have HA0:=hd' hA0
              have HX0:=hd' hX0
              have Hlt:Hid (kp<=vT.size):=by show _<=_;omega
              have hkl:kp<2000000100:=by omega
              clear hA0 hX0 hT0 hkq HvB HvT HTB
              generalize bs ABs=vA at *
              go_upto_region 37 with fail
              rw[Hkq.out]
              have hA0:=HA0.out
              have hX0:=HX0.out
              have hlt:=Hlt.out
              clear hBsz Hkq HA0 HX0 Hlt
              go_quiet (fail)
              have hdr:=Hend.out (wm.drewN nq) (HT7.out.later (Drew.one wm nq).below)
              clear hA0 hX0 hlt b7 HT7 Hend
              generalize wm.drewN nq=w8 at *
              go_wp2_with fail
              refine hdr.mono ?_
              rintro e w9 ⟨rfl,hE2⟩
              clear hdr
              go_wp2_with fail
              refine hE2.mono ?_
              rintro e w10 ⟨rfl,hE3⟩
              clear hE2
              go_wp2_with fail
              refine hE3.mono ?_
              rintro e w11 ⟨rfl,hb⟩
              have HF:Hid (Below w.heap.size w w11):=Hb2.out.trans (hb.mono Hb2.out.size)
              clear hE3 hb
              go_wp2
              go_ret
              exact⟨rfl,HF.out⟩
            · rw[if_neg hw] at hA0 hX0
              have hq:((n:Int)==9)=false:=beq_false_of_ne (by omega)
              obtain⟨kp,hkq⟩:∃k,k=vB.size:=⟨_,rfl⟩
              have Hkq:Hid (((vB.size:Nat):Int)=((kp:Nat):Int)):=by show _=_;omega
              rw[<-hkq] at hA0 hX0
              have HA0:=hd' hA0
              have HX0:=hd' hX0
              have Hlt:Hid (kp<=vT.size):=by show _<=_;omega
              have hkl:kp<2000000100:=by omega
              clear hA0 hX0 hT0 hkq HvB HvT HTB
              generalize bs ABs=vA at *
              go_upto_region 37 with fail
              rw[Hkq.out]
              have hA0:=HA0.out
              have hX0:=HX0.out
              have hlt:=Hlt.out
              clear hBsz Hkq HA0 HX0 Hlt
              go_quiet (fail)
              have hdr:=Hend.out (wm.drewN nq) (HT7.out.later (Drew.one wm nq).below)
              clear hA0 hX0 hlt b7 HT7 Hend
              generalize wm.drewN nq=w8 at *
              go_wp2_with fail
              refine hdr.mono ?_
              rintro e w9 ⟨rfl,hE2⟩
              clear hdr
              go_wp2_with fail
              refine hE2.mono ?_
              rintro e w10 ⟨rfl,hE3⟩
              clear hE2
              go_wp2_with fail
              refine hE3.mono ?_
              rintro e w11 ⟨rfl,hb⟩
              have HF:Hid (Below w.heap.size w w11):=Hb2.out.trans (hb.mono Hb2.out.size)
              clear hE3 hb
              go_wp2
              go_ret
              exact⟨rfl,HF.out⟩
      · rw[hup] at hu;cases hu
end Go.Proofs.YtgamgomepdfgdaaGreat
