import Derived.Test.YtgamgomepdfgdaaGreatFM41
set_option maxRecDepth 100000
set_option maxHeartbeats 8000000
namespace Go.Proofs.YtgamgomepdfgdaaGreat
open Go.RowKit Go.Proofs.Tryz
theorem law_fair (n0 n1 n2 n3 n4 n5 n6:Int)(others:Int)(w:World)(h0:-9223372036854775808<=n0/\n0<9223372036854775808)(h1:-9223372036854775808<=n1/\n1<9223372036854775808)(h2:-9223372036854775808<=n2/\n2<9223372036854775808)(h3:-9223372036854775808<=n3/\n3<9223372036854775808)(h4:-9223372036854775808<=n4/\n4<9223372036854775808)(h5:-9223372036854775808<=n5/\n5<9223372036854775808)(h6:-9223372036854775808<=n6/\n6<9223372036854775808)(hot:-9223372036854775808<=others/\others<9223372036854775808):
    Calls prog 8 #[.agg #[.int .i64 n0,.int .i64 n1,.int .i64 n2,.int .i64 n3,.int .i64 n4,.int .i64 n5,.int .i64 n6],.int .i64 others] w λe w'=>e=.returned (.bool true)/\Below w.heap.size w w':=by
  have hb0:=below_new w (.cells #[.int .i64 n0,.int .i64 n1,.int .i64 n2,.int .i64 n3,.int .i64 n4,.int .i64 n5,.int .i64 n6] 23)
  have hB0:=Bx.new w #[.int .i64 n0,.int .i64 n1,.int .i64 n2,.int .i64 n3,.int .i64 n4,.int .i64 n5,.int .i64 n6] 23
  have hT:=λw=>law_settings n0 n1 n2 n3 n4 n5 n6 w h0 h1 h2 h3 h4 h5 h6
  clear h0 h1 h2 h3 h4 h5 h6
  unfold SettingsGive at hT
  go_enter func8,ntmps8
  go_wp2_with fail
  go_fit (hT _)
  rintro e w1 ⟨⟨c,hc,rfl⟩,hb1⟩
  have HC:Hid c.Ok:=hc
  have hB1:Bx w1 w.heap.size 23 #[.int .i64 n0,.int .i64 n1,.int .i64 n2,.int .i64 n3,.int .i64 n4,.int .i64 n5,.int .i64 n6]:=(hb1.block _ hB0.lt).trans hB0
  have eC:(c.cells.toArray:Array Value)=#[.int .i64 c.lanes,.int .i64 c.age,.int .i64 c.batch,.int .i64 c.window,.int .i64 c.retries,.int .i64 c.deadline,.int .i64 c.queue]:=rfl
  rw[eC]
  clear eC hT hc
  have x0:=hB1.c 0 (.int .i64 n0)
  have x1:=hB1.c 1 (.int .i64 n1)
  have x2:=hB1.c 2 (.int .i64 n2)
  have x3:=hB1.c 3 (.int .i64 n3)
  have x4:=hB1.c 4 (.int .i64 n4)
  have x5:=hB1.c 5 (.int .i64 n5)
  have x6:=hB1.c 6 (.int .i64 n6)
  have y0:=hB1.fr 0
  have y1:=hB1.fr 1
  have y2:=hB1.fr 2
  have y3:=hB1.fr 3
  have y4:=hB1.fr 4
  have y5:=hB1.fr 5
  have y6:=hB1.fr 6
  obtain⟨w2,hw2⟩:∃x,x=cfgSt w1 w.heap.size c:=⟨_,rfl⟩
  have hB2:Bx w2 w.heap.size 23 #[.int .i64 c.lanes,.int .i64 c.age,.int .i64 c.batch,.int .i64 c.window,.int .i64 c.retries,.int .i64 c.deadline,.int .i64 c.queue]:=by rw[hw2];exact cfg_st hB1 c
  have HB2:=hd' hB2
  have Hb2:Hid (Below w.heap.size w w2):=by show Below _ _ _;rw[hw2];exact cfg_below (hb0.trans (hb1.mono hb0.size)) (Nat.le_refl _) c
  have hP:=law_player c w2 HC.out
  unfold PlayerGives at hP
  unfold cfgSt at hw2
  have Hw2:=hd' hw2
  clear hb0 hB0 hb1 hB1 hB2 hw2
  go_wp2_with fail
  rw[<-Hw2.out]
  clear Hw2 x0 x1 x2 x3 x4 x5 x6 y0 y1 y2 y3 y4 y5 y6 w1
  go_fit hP
  rintro e w3 ⟨pb,xb,rfl,hE⟩
  clear hP
  have HP0:Hid (PreAt w2 w3 pb xb c 0):=pre_zero hE
  have hq16:=HC.out.2.2.2.2.2.2
  have hl4:=HC.out.1
  have ha8:=HC.out.2.1
  have hpk:=pick_at others c.queue hot (by omega) (by omega)
  have hzq:pickN others c.queue<c.queue:=pickN_lt (by omega)
  generalize pickN others c.queue=z at hpk hzq
  have HCe:Hid (∀W,Below w2.heap.size w2 W->W.cell? ⟨w.heap.size,0,none⟩=some (.int .i64 c.lanes)/\W.cell? ⟨w.heap.size,1,none⟩=some (.int .i64 c.age)/\W.cell? ⟨w.heap.size,6,none⟩=some (.int .i64 c.queue)):=λW hW=>⟨jcell_after hW (HB2.out.cell (i:=0) rfl),jcell_after hW (HB2.out.cell (i:=1) rfl),jcell_after hW (HB2.out.cell (i:=6) rfl)⟩
  obtain⟨LA,hLA⟩:∃LA,LA=c.lanes*c.age:=⟨_,rfl⟩
  have hLA32:LA<=32:=by rw[hLA];exact Nat.le_trans (Nat.mul_le_mul hl4.2 ha8.2) (by decide)
  have hwl:IntKind.i64.wrap ((c.lanes:Int)*(c.age:Int))=(LA:Int):=by
    have e:(c.lanes:Int)*(c.age:Int)=(LA:Int):=by rw[hLA];push_cast;rfl
    rw[e]
    exact wrap_i64 (by omega) (by omega)
  have HM:Hid ((c.lanes-1)*c.age+c.age=LA):=by
    show _=_
    obtain⟨l,hl⟩:∃l,c.lanes=l+1:=⟨c.lanes-1,by omega⟩
    rw[hLA,hl,Nat.add_sub_cancel,Nat.succ_mul]
  clear hE hLA hot
  go_wp2_with fail
  go_loopw [6,7] (λdv kv wr=>∃k:Nat,k<=z/\dv=.int .i64 k/\kv=.int .i64 k/\Hid (PreAt w2 wr pb xb c k)) (λ_ kv _=>z-(intOf kv).toNat)
  case atStart=>exact⟨0,Nat.zero_le _,rfl,rfl,HP0⟩
  case round=>
    obtain⟨k,hk,rfl,rfl,HP⟩:=hrel
    clear HP0
    have hbw:Below w2.heap.size w2 wr:=HP.out.below
    obtain⟨c0,c1,c6⟩:=HCe.out wr hbw
    clear hbw
    by_cases hlt:k<z
    · have hsu:=λo=>pre_sub o HP.out (show k<c.queue by omega) HC.out
      have hpa:∀W,Calls prog 22 #[.int .i64 ((k:Int)+1)] W λe w'=>e=.returned (.string (pathB (k+1)))/\∃o,w'=W.alloc o:=λW=>by
        have:=path_far (k+1) (by omega) W
        rw[show ((k+1:Nat):Int)=(k:Int)+1 from by omega] at this
        exact this.mono λe w' h=>⟨h.1,_,h.2⟩
      clear HP
      go_wp2_with (first|(go_at_call 26;refine(hpk _).mono ?_;rintro e w' ⟨rfl,rfl⟩)|(go_at_call 22;refine(hpa _).mono ?_;rintro e w' ⟨rfl,o,rfl⟩))
      go_fit (hsu _)
      rintro e w4 ⟨rfl,h4⟩
      have H4:=hd' h4
      clear hsu h4 hpa c0 c1 c6
      go_wp2_with fail
      go_roundw
      case rel=>exact⟨k+1,hlt,by go_num,by go_num,H4⟩
      case measure=>simp[intOf];omega
    · obtain rfl:k=z:=by omega
      have hla:=fr_last HP.out hzq HC.out
      clear HP
      go_wp2_with (go_at_call 26;refine(hpk _).mono ?_;rintro e w' ⟨rfl,rfl⟩)
      go_fit hla
      rintro e w4 ⟨rfl,h4⟩
      obtain⟨M0,hM0⟩:∃M,M=(c.lanes-1)*c.age+k+2:=⟨_,rfl⟩
      rw[<-hM0] at h4
      have hMN:M0<=LA+c.queue:=by have:=HM.out;omega
      have H4:Hid (FrQ w2 w4 pb xb c k (40+2*k+2*0) (k+1) (M0-0)):=h4.up (by omega) rfl
      clear hla h4 hM0 hpk c0 c1 c6 hlt HM
      go_wp2_with fail
      go_loopw [6,10] (λdv iv wr=>∃i top n:Nat,i<=M0/\dv=.int .i64 top/\iv=.int .i64 i/\top<=16+16*i/\Hid (FrQ w2 wr pb xb c top (40+2*top+2*i) n (M0-i))) (λ_ iv _=>M0-(intOf iv).toNat)
      case atStart=>exact⟨0,k,k+1,Nat.zero_le _,rfl,rfl,by omega,H4⟩
      case round=>
        obtain⟨i,top,n,hi,rfl,rfl,htop,HQ⟩:=hrel
        clear H4
        have hbz:=HQ.out.busy
        obtain⟨c0,c1,c6⟩:=HCe.out wr HQ.out.below
        have hiM:i<M0:=by omega
        have hcd:(i:Int)<(LA:Int)+(c.queue:Int)+2:=by omega
        have H5:Hid (FrQ w2 wr pb xb c top (40+2*top+2*i) n (M0-i)):=HQ
        clear HQ hbz
        go_wp2_with fail
        go_loopw [6,11] (λdv kv wr=>∃q t n':Nat,q<=c.queue/\dv=.int .i64 t/\kv=.int .i64 q/\t<=top+q/\(q<=n'\/c.queue<=n')/\Hid (FrQ w2 wr pb xb c t (40+2*t+2*i) n' (M0-i))) (λ_ kv _=>c.queue-(intOf kv).toNat)
        case atStart=>exact⟨0,top,n,Nat.zero_le _,rfl,rfl,by omega,.inl (Nat.zero_le _),H5⟩
        case round=>
          obtain⟨q,t,n',hq,rfl,rfl,ht,hqn,HQ⟩:=hrel
          clear H5 c0 c1 c6
          obtain⟨c0,c1,c6⟩:=HCe.out wr HQ.out.below
          have b0:wr.cell? ⟨pb,0,none⟩=some (.pointer (some ⟨xb,0,none⟩)):=HQ.out.cell
          by_cases hlq:q<c.queue
          · have hqu:=fr_queue HQ.out HC.out (by omega)
            clear HQ
            go_wp2_with fail
            go_fit hqu
            rintro e w5 ⟨⟨qa,qc,rfl⟩,h5⟩
            obtain⟨d0,d1,d6⟩:=HCe.out w5 h5.below
            have hnl:=h5.le HC.out
            by_cases hn:n'<c.queue
            · have hsu:=λo=>fr_sub o h5 HC.out (by omega) hn (by omega)
              have hpa:∀W,Calls prog 22 #[.int .i64 ((t:Int)+1)] W λe w'=>e=.returned (.string (pathB (t+1)))/\∃o,w'=W.alloc o:=λW=>by
                have:=path_far (t+1) (by omega) W
                rw[show ((t+1:Nat):Int)=(t:Int)+1 from by omega] at this
                exact this.mono λe w' h=>⟨h.1,_,h.2⟩
              clear hqu h5 c0 c1 c6 b0
              go_wp2_with (go_at_call 22;refine(hpa _).mono ?_;rintro e w' ⟨rfl,o,rfl⟩)
              go_fit (hsu _)
              rintro e w6 ⟨rfl,h6⟩
              have H6:Hid (FrQ w2 w6 pb xb c (t+1) (40+2*(t+1)+2*i) (n'+1) (M0-i)):=by
                show FrQ _ _ _ _ _ _ _ _ _
                rw[show 40+2*(t+1)+2*i=40+2*t+2*i+2 by omega];exact h6
              clear hsu h6 hpa d0 d1 d6
              go_wp2_with fail
              go_roundw
              case rel=>exact⟨q+1,t+1,n'+1,hlq,by go_num,by go_num,by omega,by omega,H6⟩
              case measure=>simp[intOf];omega
            · have H5:=hd' h5
              clear hqu h5 c0 c1 c6 b0
              go_wp2_with fail
              go_roundw
              case rel=>exact⟨q+1,t,n',hlq,rfl,by go_num,by omega,by omega,H5⟩
              case measure=>simp[intOf];omega
          · have hpu:=fr_pump (m:=M0-i-1) (by rw[show M0-i-1+1=M0-i by omega];exact HQ.out) HC.out (by omega) (by omega)
            clear HQ c0 c1 b0
            go_wp2_with fail
            go_fit hpu
            rintro e w5 ⟨rfl,h5⟩
            have hve:=fr_verdict h5 HC.out (by omega)
            clear hpu h5 c6
            go_wp2_with fail
            go_fit hve
            rintro e w6 ⟨rfl,h6⟩
            obtain⟨i0,kd,hfi,⟨gk,ok,len,kc,e8,hil,hll,ek⟩,hbw,hcase⟩:=h6.look
            have Hbw:=hd' hbw
            have Hcase:=hd' hcase
            clear hve h6 hbw hcase
            rcases Hcase.out with rfl|⟨rfl,hrest⟩
            · have HF:Hid (∀m,Below w.heap.size w (w6.drewN m)):=λm=>(Hb2.out.trans (Hbw.out.mono Hb2.out.size)).trans ((Drew.one w6 m).below.mono (Nat.le_trans Hb2.out.size Hbw.out.size))
              clear Hcase
              go_wp2_with fail
              go_quiet ((go_at_call 25;exact Calls.quiet_of_same (hfi _)))
              go_wp2_with fail
              go_ret
              exact⟨rfl,HF.out _⟩
            · have HN:Hid (∀m,∃n,FrQ w2 (w6.drewN m) pb xb c t (40+2*t+2*(i+1)) n (M0-(i+1))):=λm=>by
                obtain⟨n2,h9⟩:=hrest
                exact⟨n2,(h9.drawn m).up (by omega) (by omega)⟩
              clear Hcase hrest
              go_wp2_with fail
              go_quiet ((go_at_call 25;exact Calls.quiet_of_same (hfi _)))
              obtain⟨n2,h7⟩:=HN.out nq
              have H7:=hd' h7
              clear h7 HN hfi e8 ek
              go_wp2_with fail
              go_roundw
              case rel=>exact⟨i+1,t,n2,by omega,rfl,by go_num,by omega,H7⟩
              case measure=>simp[intOf];omega
end Go.Proofs.YtgamgomepdfgdaaGreat
