import Derived.Test.YtgamgomepdfgdaaGreatEM06
set_option maxRecDepth 100000
set_option maxHeartbeats 8000000
namespace Go.Proofs.YtgamgomepdfgdaaGreat
open Go.RowKit Go.Proofs.Tryz
theorem back_submit (lane id:Nat)(es:List Ed)(v:Value)(w:World)(hlane:lane<256)(hid:id<9223372036854775808)(hsm:Small es)(hV:BV w v (subB lane es es.length++be 8 id)):
    Calls prog 166 #[.int .i64 1,v] w λe w'=>(∃g,e=.returned (.agg #[.int .i64 1,.int .i64 lane,.slice (some ⟨g,0,none⟩) es.length es.length,.int .i64 id,.bool false,.int .i64 0])/\w.heap.size<=g/\Half w' g es.length es.length es)/\Below w.heap.size w w':=by
  obtain⟨a,n,c,rfl⟩:=hV.form
  have hvb:Hid (∀b,w.heap.size<=b->(Value.slice a n c).ownBlock≠some b):=λb hb=>by
    rcases hV with ⟨_,h⟩|⟨g,off,cap,h,_,_,hg,_⟩
    · rw[h];simp[Value.ownBlock]
    · rw[h];intro e
      have:g=b:=by simpa[Value.ownBlock] using e
      omega
  have hd1:(subB lane es es.length++be 8 id).drop 1=edsB es es.length++be 8 id:=by
    rw[subB,edsB];simp[be]
  have hv1:val ((subB lane es es.length++be 8 id).take 1)=lane:=by
    rw[subB];simp[be,val];omega
  have hl1:1<=(subB lane es es.length++be 8 id).length:=by rw[List.length_append,be_len];omega
  have hl8:(be 8 id).take 8=be 8 id:=List.take_of_length_le (by rw[be_len];exact Nat.le_refl _)
  have hv8:val (be 8 id)=id:=by rw[val_be];exact Nat.mod_eq_of_lt (by omega)
  have hN:=num8 (w.heap.size+1+1) _ false _ _ (W3.cur w 1 (.slice a n c)) (hV.later (W3.below w 1 _))
  have hwr:IntKind.i64.wrap (lane:Int)=lane:=wrap_i64 (by omega) (by omega)
  have hw64:wrap64 (lane:Int)=lane:=by unfold wrap64;omega
  go_enter func166,ntmps166
  go_wp2_with fail
  go_fit hN
  rintro e w1 ⟨y,rfl,hk,hg⟩
  rcases hk with ⟨_,hy,v1,hC1,hV1,hO1⟩|⟨h,_⟩
  · rw[hv1] at hy
    subst hy
    rw[hd1] at hV1
    have B1:=(W3.b1 w 1 (.slice a n c)).grown hg (by simp)
    have B0:=(W3.b0 w 1 (.slice a n c)).grown hg (by simp;omega)
    have HW:Hid (Below w.heap.size w w1):=below_at_new (W3.below w 1 (.slice a n c)) hg (by omega)
    have m1:=B1.cell (i:=1) rfl
    have mf:=B1.fr 1
    have bc2:w.heap.size+1+1<w1.heap.size:=(Array.getElem?_eq_some_iff.1 hC1).1
    have nv1:v1.ownBlock≠some (w.heap.size+1):=by rw[hO1];exact hvb.out _ (Nat.le_succ _)
    have C1':Cur (w1.setCell ⟨w.heap.size+1,1,none⟩ (.int .i64 y)) (w.heap.size+1+1) v1 false:=hC1.other (by omega) _ _
    have V1':BV (w1.setCell ⟨w.heap.size+1,1,none⟩ (.int .i64 y)) v1 (edsB es es.length++be 8 id):=hV1.other nv1 _ _
    have hE:=edits_read (w.heap.size+1+1) v1 false es (be 8 id) _ _ C1' V1' rfl hsm
    have X1:Hid (Bx (w1.setCell ⟨w.heap.size+1,1,none⟩ (.int .i64 y)) (w.heap.size+1) 140 #[.int .i64 1,.int .i64 y,.slice none 0 0,.int .i64 0,.bool false,.int .i64 0]):=by
      have:=B1.set 1 (.int .i64 y)
      simp only[List.setIfInBounds_toArray,List.set_cons_zero,List.set_cons_succ] at this
      exact this
    have X0:Hid (Bx (w1.setCell ⟨w.heap.size+1,1,none⟩ (.int .i64 y)) w.heap.size 140 zeroR):=B0.other (by omega) _ _
    have XW:Hid (Below w.heap.size w (w1.setCell ⟨w.heap.size+1,1,none⟩ (.int .i64 y))):=below_set HW.out (Nat.le_succ _) _ _
    have O1:Hid (v1.ownBlock=(Value.slice a n c).ownBlock):=hO1
    clear hN hC1 hV1 hO1 hg B1 B0 HW C1' V1' hV hv1 hd1 hl1
    go_wp2_with fail
    go_fit hE
    rintro e w2 ⟨⟨g,rfl,hge,hH⟩,⟨v2,hC2,hV2,hO2⟩,hg2⟩
    have hgw:w.heap.size+1+1<g:=Nat.lt_of_lt_of_le bc2 (by simpa[World.setCell] using hge)
    have B1:=X1.out.grown hg2 (by simp)
    have B0:=X0.out.grown hg2 (by simp;omega)
    have m2:=B1.cell (i:=2) rfl
    have mf2:=B1.fr 2
    have nv2:v2.ownBlock≠some (w.heap.size+1):=by rw[hO2,O1.out];exact hvb.out _ (Nat.le_succ _)
    have C2':Cur (w2.setCell ⟨w.heap.size+1,2,none⟩ (.slice (some ⟨g,0,none⟩) es.length es.length)) (w.heap.size+1+1) v2 false:=hC2.other (by omega) _ _
    have V2':BV (w2.setCell ⟨w.heap.size+1,2,none⟩ (.slice (some ⟨g,0,none⟩) es.length es.length)) v2 (be 8 id):=hV2.other nv2 _ _
    have hI:=num64 (w.heap.size+1+1) v2 false (be 8 id) _ C2' V2' (by rw[hl8,hv8];exact hid)
    have H2:Hid (Half (w2.setCell ⟨w.heap.size+1,2,none⟩ (.slice (some ⟨g,0,none⟩) es.length es.length)) g es.length es.length es):=hH.grown (grown_set _ _ _ _) (by omega)
    have Y1:Hid (Bx (w2.setCell ⟨w.heap.size+1,2,none⟩ (.slice (some ⟨g,0,none⟩) es.length es.length)) (w.heap.size+1) 140 #[.int .i64 1,.int .i64 y,.slice (some ⟨g,0,none⟩) es.length es.length,.int .i64 0,.bool false,.int .i64 0]):=by
      have:=B1.set 2 (.slice (some ⟨g,0,none⟩) es.length es.length)
      simp only[List.setIfInBounds_toArray,List.set_cons_zero,List.set_cons_succ] at this
      exact this
    have Y0:Hid (Bx (w2.setCell ⟨w.heap.size+1,2,none⟩ (.slice (some ⟨g,0,none⟩) es.length es.length)) w.heap.size 140 zeroR):=B0.other (by omega) _ _
    have YW:Hid (Below w.heap.size w (w2.setCell ⟨w.heap.size+1,2,none⟩ (.slice (some ⟨g,0,none⟩) es.length es.length))):=below_set (below_at_new XW.out hg2 (by omega)) (Nat.le_succ _) _ _
    clear hE hC2 hV2 hO2 hg2 B1 B0 C2' V2' hH X1 X0 XW O1 m1 mf
    go_wp2_with fail
    go_fit hI
    rintro e w3 ⟨z,rfl,hk,hg3⟩
    obtain rfl:z=id:=by
      rcases hk with ⟨_,h,_⟩|⟨h,_⟩
      · rw[h,hl8,hv8]
      · rw[be_len] at h;omega
    have B1:=Y1.out.grown hg3 (by simp)
    have B0:=Y0.out.grown hg3 (by simp;omega)
    have H3:Hid (Half w3 g es.length es.length es):=H2.out.grown hg3 (by omega)
    have ZW:Hid (Below w.heap.size w w3):=below_at_new YW.out hg3 (by omega)
    have k0:=B1.cell (i:=0) rfl
    have k1:=B1.cell (i:=1) rfl
    have k2:=B1.cell (i:=2) rfl
    have k3:=B1.cell (i:=3) rfl
    have k4:=B1.cell (i:=4) rfl
    have k5:=B1.cell (i:=5) rfl
    have kf:=B1.fr 3
    have n0:=B0.cell (i:=0) rfl
    have n1:=B0.cell (i:=1) rfl
    have n2:=B0.cell (i:=2) rfl
    have n3:=B0.cell (i:=3) rfl
    have n4:=B0.cell (i:=4) rfl
    have n5:=B0.cell (i:=5) rfl
    have nf:=B0.fr
    have HB0:Hid (Bx w3 w.heap.size 140 zeroR):=B0
    clear hI hk hg3 B1 B0 Y1 Y0 YW H2 m2 mf2 hl8 hv8
    go_wp2
    have hz:=Bx.set6 (HB0.out.other (c:=w.heap.size+1) (by omega) 3 (.int .i64 z)) (.int .i64 1) (.int .i64 y) (.slice (some ⟨g,0,none⟩) es.length es.length) (.int .i64 z) (.bool false) (.int .i64 0)
    have z0:=hz.cell (i:=0) rfl
    have z1:=hz.cell (i:=1) rfl
    have z2:=hz.cell (i:=2) rfl
    have z3:=hz.cell (i:=3) rfl
    have z4:=hz.cell (i:=4) rfl
    have z5:=hz.cell (i:=5) rfl
    refine bodyPost_ret (by simp[results,results166,go_sem,z0,z1,z2,z3,z4,z5]) rfl ⟨⟨g,rfl,by omega,?_⟩,?_⟩
    · have hb:g≠w.heap.size:=by omega
      have hb1:g≠w.heap.size+1:=by omega
      exact((((((H3.out.grown (grown_set _ _ _ _) hb1).grown (grown_set _ _ _ _) hb).grown (grown_set _ _ _ _) hb).grown (grown_set _ _ _ _) hb).grown (grown_set _ _ _ _) hb).grown (grown_set _ _ _ _) hb).grown (grown_set _ _ _ _) hb
    · have h0:=Nat.le_refl w.heap.size
      exact below_set (below_set (below_set (below_set (below_set (below_set (below_set ZW.out (Nat.le_succ _) _ _) h0 _ _) h0 _ _) h0 _ _) h0 _ _) h0 _ _) h0 _ _
  · omega
theorem BV.len {w:World}{v:Value}{R:List UInt8}(h:BV w v R):∃a c,v=.slice a R.length c/\R.length<=c/\(c<9223372036854775808/\R.length<1099511627776)/\(a=none->c=0):=by
  rcases h with ⟨rfl,rfl⟩|⟨g,off,cap,rfl,h1,h2,_⟩
  · exact⟨none,0,rfl,Nat.le_refl _,⟨by decide,by decide⟩,λ_=>rfl⟩
  · exact⟨_,cap,rfl,h1,h2,λh=>by cases h⟩
def Next (w w':World)(cb:Nat)(v:Value)(sh:Bool)(R:List UInt8)(k:Nat)(v':Value)(sh':Bool)(R':List UInt8):Prop:=
  Cur w' cb v' sh'/\BV w' v' R'/\v'.ownBlock=v.ownBlock/\w.grownBy w' (some cb)/\((k<=R.length/\R'=R.drop k/\sh'=sh)\/(R.length<k/\R'=R/\sh'=true))
theorem Read.next {x:Nat}{w w':World}{cb:Nat}{v:Value}{sh:Bool}{R:List UInt8}{k:Nat}(h:Read x w w' cb v sh R k):∃v' sh' R',Next w w' cb v sh R k v' sh' R'/\((k<=R.length/\x=val (R.take k))\/(R.length<k/\x=0)):=by
  obtain⟨h|h,hg⟩:=h
  · obtain⟨hle,hx,v',h1,h2,h3⟩:=h
    exact⟨v',sh,_,⟨h1,h2,h3,hg,.inl ⟨hle,rfl,rfl⟩⟩,.inl ⟨hle,hx⟩⟩
  · obtain⟨hlt,hx,h1,h2⟩:=h
    exact⟨v,true,R,⟨h1,h2,rfl,hg,.inr ⟨hlt,rfl,rfl⟩⟩,.inr ⟨hlt,hx⟩⟩
theorem Took.next {e:Ending}{w w':World}{cb:Nat}{v:Value}{sh:Bool}{R:List UInt8}{k:Nat}(h:Took e w w' cb v sh R k):∃u v' sh' R',e=.returned u/\(∃a n c,u=.slice a n c)/\Next w w' cb v sh R k v' sh' R'/\(k<=R.length->BV w' u (R.take k)):=by
  obtain⟨h|h,hg⟩:=h
  · obtain⟨hle,u,v',he,h1,h2,h3,_,h5⟩:=h
    exact⟨u,v',sh,_,he,h2.form,⟨h1,h3,h5,hg,.inl ⟨hle,rfl,rfl⟩⟩,λ_=>h2⟩
  · obtain⟨hlt,he,h1,h2⟩:=h
    exact⟨_,v,true,R,he,⟨_,_,_,rfl⟩,⟨h1,h2,rfl,hg,.inr ⟨hlt,rfl,rfl⟩⟩,λh=>by omega⟩
def recB (kind:Nat)(body:List UInt8):List UInt8:=be 1 kind++be 4 body.length++body++be 4 (adler (be 1 kind++be 4 body.length++body))
theorem recB_len' (kind:Nat)(body:List UInt8):(recB kind body).length=9+body.length:=by
  rw[recB,List.length_append,recB_len,be_len];omega
theorem torn_short {kind:Nat}{body T R1 R2 R3 R4:List UInt8}{y m:Nat}{s1 s2 s3 s4:Bool}(hb:body.length<1000)(hm:m<9+body.length)(hT:T=(recB kind body).take m)(h1:(1<=T.length/\R1=T.drop 1/\s1=false)\/(T.length<1/\R1=T/\s1=true))(h2:(4<=R1.length/\R2=R1.drop 4/\s2=s1)\/(R1.length<4/\R2=R1/\s2=true))(hy:(4<=R1.length/\y=val (R1.take 4))\/(R1.length<4/\y=0))(h3:(y<=R2.length/\R3=R2.drop y/\s3=s2)\/(R2.length<y/\R3=R2/\s3=true))(h4:(4<=R3.length/\R4=R3.drop 4/\s4=s3)\/(R3.length<4/\R4=R3/\s4=true)):s4=true:=by
  have hTl:T.length=m:=by rw[hT,List.length_take,recB_len'];omega
  rcases h1 with ⟨a1,rfl,rfl⟩|⟨a1,rfl,rfl⟩
  · rcases h2 with ⟨a2,rfl,rfl⟩|⟨a2,rfl,rfl⟩
    · have hy':y=body.length:=by
        rcases hy with ⟨_,h⟩|⟨h,_⟩
        · rw[h,hT]
          have e:(((recB kind body).take m).drop 1).take 4=be 4 body.length:=by
            rw[List.drop_take,List.take_take]
            have hm5:5<=m:=by rw[List.length_drop] at a2;omega
            rw[Nat.min_eq_left (by omega),recB]
            simp[be]
          rw[e,val_be]
          exact Nat.mod_eq_of_lt (by omega)
        · omega
      subst hy'
      rcases h3 with ⟨a3,rfl,rfl⟩|⟨a3,rfl,rfl⟩
      · rcases h4 with ⟨a4,_,_⟩|⟨_,_,h⟩
        · simp only[List.length_drop] at a3 a4;omega
        · exact h
      · rcases h4 with ⟨_,_,h⟩|⟨_,_,h⟩
        · exact h
        · exact h
    · rcases h3 with ⟨_,_,rfl⟩|⟨_,_,rfl⟩
      · rcases h4 with ⟨_,_,h⟩|⟨_,_,h⟩
        · exact h
        · exact h
      · rcases h4 with ⟨_,_,h⟩|⟨_,_,h⟩
        · exact h
        · exact h
  · rcases h2 with ⟨a2,_,_⟩|⟨_,_,rfl⟩
    · omega
    · rcases h3 with ⟨_,_,rfl⟩|⟨_,_,rfl⟩
      · rcases h4 with ⟨_,_,h⟩|⟨_,_,h⟩
        · exact h
        · exact h
      · rcases h4 with ⟨_,_,h⟩|⟨_,_,h⟩
        · exact h
        · exact h
def passN (p:Bool):Nat:=if p then 1 else 0
theorem verdict_any (p:Bool)(w:World):Calls prog 199 #[.bool p] w λe w'=>e=.returned (.int .u8 (passN p:Nat))/\w'=w:=by
  cases p
  all_goals
    go_enter func199,ntmps199
    go_wp2
    go_ret
    exact⟨rfl,rfl⟩
theorem jbody_ans (lane id num:Nat)(pass:Bool)(ea:Option Addr)(en ec:Nat)(w:World)(body:List UInt8)(hbody:body=be 1 (passN pass)++be 8 num):
    Calls prog 159 #[.agg #[.int .i64 4,.int .i64 lane,.slice ea en ec,.int .i64 id,.bool pass,.int .i64 num]] w λe w'=>∃v',e=.returned v'/\Fresh w w' v' body:=by
  have hp:passN pass<256:=by cases pass<;>decide
  have hv:=verdict_any pass
  have hc:Hid (∀o,Calls prog 160 #[.slice none 0 0,.int .u8 ((passN pass:Nat):Int)] (w.alloc o) λe w'=>∃v',e=.returned v'/\App (w.heap.size+1) (w.alloc o) w' (.slice none 0 0) v' ([]++be 1 (passN pass))):=λo=>app8' (passN pass) hp (.slice none 0 0) [] (w.heap.size+1) (w.alloc o) (nil_row _ _) (by simp) (by decide)
  have hsub:Hid (([]++be 1 (passN pass))++be 8 num=body):=by
    show _=_
    rw[hbody];simp
  have nw:Hid ((Value.slice none 0 0).ownBlock≠some w.heap.size):=by show _≠_;simp[Value.ownBlock]
  have L1:([]++be 1 (passN pass):List UInt8).length=1:=by simp[be_len]
  clear hbody
  generalize passN pass=pn at *
  go_enter func159,ntmps159
  go_wp2_with fail
  go_fit (hv _)
  rintro e w0 ⟨rfl,rfl⟩
  go_wp2_with fail
  go_fit (hc.out _)
  rintro e w1 ⟨v1,rfl,k1⟩
  have K1:Hid _:=k1
  have c5:w1.cell? ⟨w.heap.size,5,none⟩=some (.int .i64 num):=Apped.keeps k1 (by simp) nw.out
  have hI:=app64' num v1 ([]++be 1 pn) (w.heap.size+1) w1 (Apped.row k1) (Nat.le_trans (by simp) (Apped.grown k1).size) (by omega)
  clear k1 hc
  go_wp2_with fail
  go_fit hI
  rintro e w3 ⟨v3,rfl,k3⟩
  go_wp2_with fail
  go_ret
  refine⟨v3,rfl,?_⟩
  have:=Fresh.of (Apped.trans K1.out k3)
  rwa [hsub.out] at this
theorem back_ans (num:Nat)(pass:Bool)(v:Value)(w:World)(hid:num<9223372036854775808)(hV:BV w v (be 1 (passN pass)++be 8 num)):
    Calls prog 166 #[.int .i64 4,v] w λe w'=>e=.returned (.agg #[.int .i64 4,.int .i64 0,.slice none 0 0,.int .i64 0,.bool pass,.int .i64 num])/\Below w.heap.size w w':=by
  obtain⟨a,n,c,rfl⟩:=hV.form
  have hp:passN pass<256:=by cases pass<;>decide
  have hvd:=verdict_any true
  have hvb:Hid (∀b,w.heap.size<=b->(Value.slice a n c).ownBlock≠some b):=λb hb=>by
    rcases hV with ⟨_,h⟩|⟨g,off,cap,h,_,_,hg,_⟩
    · rw[h];simp[Value.ownBlock]
    · rw[h];intro e
      have:g=b:=by simpa[Value.ownBlock] using e
      omega
  have hd1:(be 1 (passN pass)++be 8 num).drop 1=be 8 num:=List.drop_left' (be_len 1 _)
  have hv1:val ((be 1 (passN pass)++be 8 num).take 1)=passN pass:=by
    rw[List.take_left' (be_len 1 _),val_be];exact Nat.mod_eq_of_lt (by omega)
  have hl1:1<=(be 1 (passN pass)++be 8 num).length:=by rw[List.length_append,be_len];omega
  have hl8:(be 8 num).take 8=be 8 num:=List.take_of_length_le (by rw[be_len];exact Nat.le_refl _)
  have hv8:val (be 8 num)=num:=by rw[val_be];exact Nat.mod_eq_of_lt (by omega)
  have hN:=num8 (w.heap.size+1+1) _ false _ _ (W3.cur w 4 (.slice a n c)) (hV.later (W3.below w 4 _))
  have hdec:(((passN pass:Nat):Int)==((passN true:Nat):Int))=pass:=by cases pass<;>rfl
  go_enter func166,ntmps166
  go_wp2_with fail
  go_fit hN
  rintro e w1 ⟨y,rfl,hk,hg⟩
  rcases hk with ⟨_,hy,v1,hC1,hV1,hO1⟩|⟨h,_⟩
  · rw[hv1] at hy
    subst hy
    rw[hd1] at hV1
    have B1:=(W3.b1 w 4 (.slice a n c)).grown hg (by simp)
    have B0:=(W3.b0 w 4 (.slice a n c)).grown hg (by simp;omega)
    have HW:Hid (Below w.heap.size w w1):=below_at_new (W3.below w 4 (.slice a n c)) hg (by omega)
    have m1:=B1.cell (i:=4) rfl
    have mf:=B1.fr 4
    have bc2:w.heap.size+1+1<w1.heap.size:=(Array.getElem?_eq_some_iff.1 hC1).1
    have nv1:v1.ownBlock≠some (w.heap.size+1):=by rw[hO1];exact hvb.out _ (Nat.le_succ _)
    have C1':Cur (w1.setCell ⟨w.heap.size+1,4,none⟩ (.bool pass)) (w.heap.size+1+1) v1 false:=hC1.other (by omega) _ _
    have V1':BV (w1.setCell ⟨w.heap.size+1,4,none⟩ (.bool pass)) v1 (be 8 num):=hV1.other nv1 _ _
    have hI:=num64 (w.heap.size+1+1) v1 false (be 8 num) _ C1' V1' (by rw[hl8,hv8];exact hid)
    have X1:Hid (Bx (w1.setCell ⟨w.heap.size+1,4,none⟩ (.bool pass)) (w.heap.size+1) 140 #[.int .i64 4,.int .i64 0,.slice none 0 0,.int .i64 0,.bool pass,.int .i64 0]):=by
      have:=B1.set 4 (.bool pass)
      simp only[List.setIfInBounds_toArray,List.set_cons_zero,List.set_cons_succ] at this
      exact this
    have X0:Hid (Bx (w1.setCell ⟨w.heap.size+1,4,none⟩ (.bool pass)) w.heap.size 140 zeroR):=B0.other (by omega) _ _
    have XW:Hid (Below w.heap.size w (w1.setCell ⟨w.heap.size+1,4,none⟩ (.bool pass))):=below_set HW.out (Nat.le_succ _) _ _
    clear hN hC1 hV1 hO1 hg B1 B0 HW C1' V1' hV hv1 hd1 hl1
    go_wp2_with fail
    go_fit (hvd _)
    rintro e w0 ⟨rfl,rfl⟩
    go_wp2_with fail
    go_fit hI
    rintro e w3 ⟨z,rfl,hk,hg3⟩
    obtain rfl:z=num:=by
      rcases hk with ⟨_,h,_⟩|⟨h,_⟩
      · rw[h,hl8,hv8]
      · rw[be_len] at h;omega
    have B1:=X1.out.grown hg3 (by simp)
    have B0:=X0.out.grown hg3 (by simp;omega)
    have ZW:Hid (Below w.heap.size w w3):=below_at_new XW.out hg3 (by omega)
    have k0:=B1.cell (i:=0) rfl
    have k1:=B1.cell (i:=1) rfl
    have k2:=B1.cell (i:=2) rfl
    have k3:=B1.cell (i:=3) rfl
    have k4:=B1.cell (i:=4) rfl
    have k5:=B1.cell (i:=5) rfl
    have kf:=B1.fr 5
    have n0:=B0.cell (i:=0) rfl
    have n1:=B0.cell (i:=1) rfl
    have n2:=B0.cell (i:=2) rfl
    have n3:=B0.cell (i:=3) rfl
    have n4:=B0.cell (i:=4) rfl
    have n5:=B0.cell (i:=5) rfl
    have nf:=B0.fr
    have HB0:Hid (Bx w3 w.heap.size 140 zeroR):=B0
    clear hI hk hg3 B1 B0 X1 X0 XW m1 mf hl8 hv8
    go_wp2
    have hz:=Bx.set6 (HB0.out.other (c:=w.heap.size+1) (by omega) 5 (.int .i64 z)) (.int .i64 4) (.int .i64 0) (.slice none 0 0) (.int .i64 0) (.bool pass) (.int .i64 z)
    have z0:=hz.cell (i:=0) rfl
    have z1:=hz.cell (i:=1) rfl
    have z2:=hz.cell (i:=2) rfl
    have z3:=hz.cell (i:=3) rfl
    have z4:=hz.cell (i:=4) rfl
    have z5:=hz.cell (i:=5) rfl
    refine bodyPost_ret (by simp[results,results166,go_sem,z0,z1,z2,z3,z4,z5]) rfl ⟨rfl,?_⟩
    have h0:=Nat.le_refl w.heap.size
    exact below_set (below_set (below_set (below_set (below_set (below_set (below_set ZW.out (Nat.le_succ _) _ _) h0 _ _) h0 _ _) h0 _ _) h0 _ _) h0 _ _) h0 _ _
  · omega
theorem whole_read {kind:Nat}{body rest R R1 R2 R3 R4:List UInt8}{x y z:Nat}{s1 s2 s3 s4:Bool}(hk:kind<256)(hb:body.length<1000)(hR:R=recB kind body++rest)(h1:(1<=R.length/\R1=R.drop 1/\s1=false)\/(R.length<1/\R1=R/\s1=true))(hx:(1<=R.length/\x=val (R.take 1))\/(R.length<1/\x=0))(h2:(4<=R1.length/\R2=R1.drop 4/\s2=s1)\/(R1.length<4/\R2=R1/\s2=true))(hy:(4<=R1.length/\y=val (R1.take 4))\/(R1.length<4/\y=0))(h3:(y<=R2.length/\R3=R2.drop y/\s3=s2)\/(R2.length<y/\R3=R2/\s3=true))(h4:(4<=R3.length/\R4=R3.drop 4/\s4=s3)\/(R3.length<4/\R4=R3/\s4=true))(hz:(4<=R3.length/\z=val (R3.take 4))\/(R3.length<4/\z=0)):
    x=kind/\y=body.length/\y<=R2.length/\R2.take y=body/\z=adler (be 1 kind++be 4 body.length++body)/\R4=rest/\s4=false/\R.length-R3.length=5+body.length/\R3.length<=R.length/\R.take (5+body.length)=be 1 kind++be 4 body.length++body:=by
  obtain⟨s,hs⟩:∃s,s=be 1 kind++be 4 body.length++body:=⟨_,rfl⟩
  have hsl:s.length=5+body.length:=by rw[hs];exact recB_len
  have eR:R=be 1 kind++(be 4 body.length++(body++(be 4 (adler s)++rest))):=by
    rw[hR,recB,hs];simp only[List.append_assoc]
  have l1:R.length=9+body.length+rest.length:=by rw[hR,List.length_append,recB_len']
  have e1:R1=be 4 body.length++(body++(be 4 (adler s)++rest))/\s1=false:=by
    rcases h1 with ⟨_,h,h'⟩|⟨h,_⟩
    · exact⟨by rw[h,eR,List.drop_left' (be_len 1 kind)],h'⟩
    · omega
  have ex:x=kind:=by
    rcases hx with ⟨_,h⟩|⟨h,_⟩
    · rw[h,eR,List.take_left' (be_len 1 kind),val_be];exact Nat.mod_eq_of_lt (by omega)
    · omega
  have l2:R1.length=8+body.length+rest.length:=by rw[e1.1,List.length_append,List.length_append,List.length_append,be_len,be_len];omega
  have e2:R2=body++(be 4 (adler s)++rest)/\s2=false:=by
    rcases h2 with ⟨_,h,h'⟩|⟨h,_⟩
    · exact⟨by rw[h,e1.1,List.drop_left' (be_len 4 _)],by rw[h',e1.2]⟩
    · omega
  have ey:y=body.length:=by
    rcases hy with ⟨_,h⟩|⟨h,_⟩
    · rw[h,e1.1,List.take_left' (be_len 4 _),val_be];exact Nat.mod_eq_of_lt (by omega)
    · omega
  subst ey
  have l3:R2.length=4+body.length+rest.length:=by rw[e2.1,List.length_append,List.length_append,be_len];omega
  have e3:R3=be 4 (adler s)++rest/\s3=false:=by
    rcases h3 with ⟨_,h,h'⟩|⟨h,_⟩
    · exact⟨by rw[h,e2.1,List.drop_left' rfl],by rw[h',e2.2]⟩
    · omega
  have l4:R3.length=4+rest.length:=by rw[e3.1,List.length_append,be_len]
  have e4:R4=rest/\s4=false:=by
    rcases h4 with ⟨_,h,h'⟩|⟨h,_⟩
    · exact⟨by rw[h,e3.1,List.drop_left' (be_len 4 _)],by rw[h',e3.2]⟩
    · omega
  have ez:z=adler s:=by
    rcases hz with ⟨_,h⟩|⟨h,_⟩
    · have:=adler_lt s
      rw[h,e3.1,List.take_left' (be_len 4 _),val_be];exact Nat.mod_eq_of_lt (by omega)
    · omega
  rw[<-hs]
  refine⟨ex,rfl,by omega,by rw[e2.1,List.take_left' rfl],ez,e4.1,e4.2,by omega,by omega,?_⟩
  rw[hR,recB,<-hs,List.append_assoc,List.take_left' hsl]
theorem BV.cut {w:World}{a:Option Addr}{c:Nat}{R:List UInt8}(h:BV w (.slice a R.length c) R){k:Nat}(hk:k<=R.length):BV w (.slice a k c) (R.take k):=by
  rcases h with ⟨rfl,h⟩|⟨g,off,cap,h1,h2,h3,h4,h5⟩
  · cases h
    obtain rfl:k=0:=by simpa using hk
    exact .inl ⟨rfl,rfl⟩
  · cases h1
    refine .inr ⟨g,off,c,by rw[List.length_take,Nat.min_eq_left hk],by rw[List.length_take];omega,⟨h3.1,by rw[List.length_take];omega⟩,h4,λi hi=>?_⟩
    rw[List.length_take] at hi
    rw[List.getElem_take];exact h5 i (by omega)
theorem record_torn (cb:Nat)(v:Value)(kind m:Nat)(body T:List UInt8)(w:World)(hC:Cur w cb v false)(hV:BV w v T)(hb:body.length<1000)(hm:m<9+body.length)(hT:T=(recB kind body).take m):
    Calls prog 113 #[.pointer (some ⟨cb,0,none⟩)] w λe w'=>e=.returned (.tuple #[.agg zeroR,.bool false])/\w.grownBy w' (some cb):=by
  obtain⟨a,c,rfl,hc1,hc2,hc3⟩:=hV.len
  have hcl:cb<w.heap.size:=(Array.getElem?_eq_some_iff.1 hC).1
  have C0:Cur (w.alloc (.cells zeroR 140)) cb (.slice a T.length c) false:=hC.grown (World.grownBy_alloc _ _ _)
  have V0:BV (w.alloc (.cells zeroR 140)) (.slice a T.length c) T:=hV.grown (World.grownBy_alloc _ _ _)
  have c0:=hC.c0
  have h1:=num8 cb _ false T _ C0 V0
  have HT:Hid (T=(recB kind body).take m):=hT
  clear hT
  clear hC hV C0
  go_enter func113,ntmps113
  go_wp2_with fail
  go_fit h1
  rintro e w1 ⟨x,rfl,hr1⟩
  obtain⟨v1,s1,R1,⟨k1C,k1V,k1o,k1g,k1⟩,_⟩:=hr1.next
  have h2:=num32 cb v1 s1 R1 w1 k1C k1V
  clear h1 hr1
  go_wp2_with fail
  go_fit h2
  rintro e w2 ⟨y,rfl,hr2⟩
  obtain⟨v2,s2,R2,⟨k2C,k2V,k2o,k2g,k2⟩,hy⟩:=hr2.next
  have hy32:y<4294967296:=by
    rcases hy with ⟨h,h'⟩|⟨_,h'⟩
    · rw[h'];exact val_lt 4 _ (by rw[List.length_take,Nat.min_eq_left h])
    · rw[h'];decide
  have hwy:IntKind.u64.wrap (y:Int)=y:=wrap_u64 (by omega) (by omega)
  have h3:=take_any cb y v2 s2 R2 w2 k2C k2V (by omega)
  clear h2 hr2
  go_wp2_with fail
  go_fit h3
  rintro e w3 hr3
  obtain⟨u,v3,s3,R3,rfl,⟨ua,un,uc,rfl⟩,⟨k3C,k3V,k3o,k3g,k3⟩,_⟩:=hr3.next
  obtain⟨a3,c3,rfl,hd1,hd2,hd3⟩:=k3V.len
  have h4:=num32 cb _ s3 R3 w3 k3C k3V
  have l3:R3.length<=T.length:=by
    have i1:R1.length<=T.length:=by rcases k1 with ⟨_,h,_⟩|⟨_,h,_⟩<;>rw[h]<;>simp
    have i2:R2.length<=R1.length:=by rcases k2 with ⟨_,h,_⟩|⟨_,h,_⟩<;>rw[h]<;>simp
    have i3:R3.length<=R2.length:=by rcases k3 with ⟨_,h,_⟩|⟨_,h,_⟩<;>rw[h]<;>simp
    omega
  have p0:=k3C.c0
  have hsub:((T.length:Int)-(R3.length:Int))=((T.length-R3.length:Nat):Int):=by omega
  have hne:(some w.heap.size:Option Nat)≠some cb:=by simp;omega
  have X3:Hid (Bx w3 w.heap.size 140 zeroR):=(((Bx.new w zeroR _).grown k1g hne).grown k2g hne).grown k3g hne
  have G3:Hid (w.grownBy w3 (some cb)):=(((World.grownBy_alloc w _ (some cb)).trans k1g).trans k2g).trans k3g
  have HH:Hid (T=(recB kind body).take m):=HT.out
  have E1:Hid _:=k1
  have E2:Hid _:=k2
  have E3:Hid _:=k3
  have EY:Hid _:=hy
  clear h3 hr3 k1C k1V k1o k1g k2C k2V k2o k2g k3C k3V k3o k3g k1 k2 k3 hy HT
  go_wp2_with fail
  go_fit h4
  rintro e w4 ⟨z,rfl,hr4⟩
  obtain⟨v4,s4,R4,⟨k4C,k4V,k4o,k4g,k4⟩,_⟩:=hr4.next
  obtain rfl:s4=true:=torn_short hb hm HH.out E1.out E2.out EY.out E3.out k4
  have q1:=k4C.c1
  have X4:Bx w4 w.heap.size 140 zeroR:=X3.out.grown k4g hne
  have G4:Hid (w.grownBy w4 (some cb)):=G3.out.trans k4g
  have n0:=X4.cell (i:=0) rfl
  have n1:=X4.cell (i:=1) rfl
  have n2:=X4.cell (i:=2) rfl
  have n3:=X4.cell (i:=3) rfl
  have n4:=X4.cell (i:=4) rfl
  have n5:=X4.cell (i:=5) rfl
  have nf:=X4.fr
  have HX4:Hid (Bx w4 w.heap.size 140 zeroR):=X4
  clear h4 hr4 k4C k4V k4o k4g k4 X4 E1 E2 E3 EY HH X3 G3
  go_wp2
  have hz:=Bx.set6 HX4.out (.int .i64 0) (.int .i64 0) (.slice none 0 0) (.int .i64 0) (.bool false) (.int .i64 0)
  have z0:=hz.cell (i:=0) rfl
  have z1:=hz.cell (i:=1) rfl
  have z2:=hz.cell (i:=2) rfl
  have z3:=hz.cell (i:=3) rfl
  have z4:=hz.cell (i:=4) rfl
  have z5:=hz.cell (i:=5) rfl
  refine bodyPost_ret (v:=.tuple #[.agg zeroR,.bool false]) (by simp[results,results113,go_sem,z0,z1,z2,z3,z4,z5,zeroR]) rfl ⟨rfl,?_⟩
  have h0:=Nat.le_refl w.heap.size
  exact grown_new (grown_new (grown_new (grown_new (grown_new (grown_new G4.out h0 _ _) h0 _ _) h0 _ _) h0 _ _) h0 _ _) h0 _ _
abbrev BackQ:=Nat->World->Nat->Value->Nat->Bool->Nat->Prop
def BackTo (kind:Nat)(body:List UInt8)(Q:BackQ):Prop:=
  (∀W u,BV W u body->Calls prog 166 #[.int .i64 kind,u] W λe W'=>(∃(l:Nat) (ea:Option Addr) (en ec i:Nat) (p:Bool) (q:Nat),e=.returned (.agg #[.int .i64 kind,.int .i64 l,.slice ea en ec,.int .i64 i,.bool p,.int .i64 q])/\Q W.heap.size W' l (.slice ea en ec) i p q)/\Below W.heap.size W W')/\
  ∀B W b o u l ev i p q,b<B->Q B W l ev i p q->Q B (W.setCell ⟨b,o,none⟩ u) l ev i p q
theorem record_whole (cb:Nat)(v:Value)(kind:Nat)(body rest R:List UInt8)(Q:BackQ)(w:World)(hC:Cur w cb v false)(hV:BV w v R)(hk:kind<256)(hb:body.length<1000)(hR:R=recB kind body++rest)(hB:Hid (BackTo kind body Q)):
    Calls prog 113 #[.pointer (some ⟨cb,0,none⟩)] w λe w'=>(∃(l:Nat) (ea:Option Addr) (en ec i:Nat) (p:Bool) (q B:Nat),e=.returned (.tuple #[.agg #[.int .i64 kind,.int .i64 l,.slice ea en ec,.int .i64 i,.bool p,.int .i64 q],.bool true])/\w.heap.size<B/\Q B w' l (.slice ea en ec) i p q)/\(∃v',Cur w' cb v' false/\BV w' v' rest/\v'.ownBlock=v.ownBlock)/\w.grownBy w' (some cb):=by
  obtain⟨a,c,rfl,hc1,hc2,hc3⟩:=hV.len
  have hcl:cb<w.heap.size:=(Array.getElem?_eq_some_iff.1 hC).1
  have C0:Cur (w.alloc (.cells zeroR 140)) cb (.slice a R.length c) false:=hC.grown (World.grownBy_alloc _ _ _)
  have V0:BV (w.alloc (.cells zeroR 140)) (.slice a R.length c) R:=hV.grown (World.grownBy_alloc _ _ _)
  have c0:=hC.c0
  have h1:=num8 cb _ false R _ C0 V0
  have HR:Hid (R=recB kind body++rest):=hR
  have hvb:Hid (∀b,w.heap.size<=b->(Value.slice a R.length c).ownBlock≠some b):=λb hb=>by
    rcases hV with ⟨_,h⟩|⟨g,off,cap,h,_,_,hg,_⟩
    · rw[h];simp[Value.ownBlock]
    · rw[h];intro e
      have:g=b:=by simpa[Value.ownBlock] using e
      omega
  clear hR hC hV
  go_enter func113,ntmps113
  go_wp2_with fail
  go_fit h1
  rintro e w1 ⟨x,rfl,hr1⟩
  obtain⟨v1,s1,R1,⟨k1C,k1V,k1o,k1g,k1⟩,hx⟩:=hr1.next
  have A1:=V0.keep C0 ⟨_,_,_,rfl⟩ k1g
  have h2:=num32 cb v1 s1 R1 w1 k1C k1V
  clear h1 hr1
  go_wp2_with fail
  go_fit h2
  rintro e w2 ⟨y,rfl,hr2⟩
  obtain⟨v2,s2,R2,⟨k2C,k2V,k2o,k2g,k2⟩,hy⟩:=hr2.next
  have A2:=A1.keep k1C k1V.form k2g
  have hy32:y<4294967296:=by
    rcases hy with ⟨h,h'⟩|⟨_,h'⟩
    · rw[h'];exact val_lt 4 _ (by rw[List.length_take,Nat.min_eq_left h])
    · rw[h'];decide
  have hwy:IntKind.u64.wrap (y:Int)=y:=wrap_u64 (by omega) (by omega)
  have h3:=take_any cb y v2 s2 R2 w2 k2C k2V (by omega)
  clear h2 hr2
  go_wp2_with fail
  go_fit h3
  rintro e w3 hr3
  obtain⟨u,v3,s3,R3,rfl,⟨ua,un,uc,rfl⟩,⟨k3C,k3V,k3o,k3g,k3⟩,hU⟩:=hr3.next
  have A3:=A2.keep k2C k2V.form k3g
  obtain⟨a3,c3,rfl,hd1,hd2,hd3⟩:=k3V.len
  have h4:=num32 cb _ s3 R3 w3 k3C k3V
  have l3:R3.length<=R.length:=by
    have i1:R1.length<=R.length:=by rcases k1 with ⟨_,h,_⟩|⟨_,h,_⟩<;>rw[h]<;>simp
    have i2:R2.length<=R1.length:=by rcases k2 with ⟨_,h,_⟩|⟨_,h,_⟩<;>rw[h]<;>simp
    have i3:R3.length<=R2.length:=by rcases k3 with ⟨_,h,_⟩|⟨_,h,_⟩<;>rw[h]<;>simp
    omega
  have p0:=k3C.c0
  have hsub:((R.length:Int)-(R3.length:Int))=((R.length-R3.length:Nat):Int):=by omega
  have hne:(some w.heap.size:Option Nat)≠some cb:=by simp;omega
  have X3:Hid (Bx w3 w.heap.size 140 zeroR):=(((Bx.new w zeroR _).grown k1g hne).grown k2g hne).grown k3g hne
  have G3:Hid (w.grownBy w3 (some cb)):=(((World.grownBy_alloc w _ (some cb)).trans k1g).trans k2g).trans k3g
  have K3:Hid (Cur w3 cb (.slice a3 R3.length c3) s3):=k3C
  have O3:Hid ((Value.slice a3 R3.length c3).ownBlock=(Value.slice a R.length c).ownBlock):=k3o.trans (k2o.trans k1o)
  have VA:Hid (BV w3 (.slice a R.length c) R):=A3
  have VU:Hid (y<=R2.length->BV w3 (.slice ua un uc) (R2.take y)):=hU
  have E1:Hid _:=k1
  have EX:Hid _:=hx
  have E2:Hid _:=k2
  have E3:Hid _:=k3
  have EY:Hid _:=hy
  clear h3 hr3 k1C k1V k1o k1g k2C k2V k2o k2g k3C k3V k3o k3g k1 k2 k3 hy hx A1 A2 A3 V0 C0 hU
  go_wp2_with fail
  go_fit h4
  rintro e w4 ⟨z,rfl,hr4⟩
  obtain⟨v4,s4,R4,⟨k4C,k4V,k4o,k4g,k4⟩,hz⟩:=hr4.next
  obtain⟨ex,ey,hyl,eb,ez,er,rfl,el,_,et⟩:=whole_read hk hb HR.out E1.out EX.out E2.out EY.out E3.out k4 hz
  have q1:=k4C.c1
  have W4:BV w4 (.slice a (5+body.length) c) (be 1 kind++be 4 body.length++body):=by
    have:=(VA.out.keep K3.out ⟨_,_,_,rfl⟩ k4g).cut (k:=5+body.length) (by omega)
    rwa [et] at this
  have hS:=csum_any _ _ w4 W4.at (by rw[recB_len];omega)
  have U4:Hid (BV w4 (.slice ua un uc) body):=by
    have:=VU.out hyl
    rw[eb] at this
    exact this.keep K3.out ⟨_,_,_,rfl⟩ k4g
  have X4:Hid (Bx w4 w.heap.size 140 zeroR):=X3.out.grown k4g hne
  have G4:Hid (w.grownBy w4 (some cb)):=G3.out.trans k4g
  have K4:Hid (∃v4,Cur w4 cb v4 false/\BV w4 v4 rest/\v4.ownBlock=(Value.slice a R.length c).ownBlock):=⟨v4,k4C,by rw[<-er];exact k4V,k4o.trans O3.out⟩
  subst ex
  subst ez
  rw[el] at *
  clear el
  have hkw:wrap64 (x:Int)=x:=by unfold wrap64;omega
  have hRB:=hB.out.1 w4 (.slice ua un uc) U4.out
  clear h4 hr4 k4C k4V k4o k4g k4 hz E1 EX E2 E3 EY HR VU VA K3 G3 X3 O3 W4 U4
  clear ey eb er et hyl hwy hy32 hsub l3 p0 c0 hc1 hc2 hc3 hd1 hd2 hd3
  generalize adler (be 1 x++be 4 body.length++body)=S at hS ⊢
  go_wp2_with fail
  go_fit hS
  rintro e w' ⟨rfl,rfl⟩
  clear hS
  go_wp2_with fail
  go_fit hRB
  rintro e w5 ⟨⟨l,ea,en,ec,i,p,q,rfl,hQ⟩,hb5⟩
  have hg5:w4.grownBy w5 none:=⟨hb5.os,hb5.tape,hb5.output,hb5.size,λk hk _=>hb5.block k hk⟩
  have X5:Bx w5 w.heap.size 140 zeroR:=X4.out.grown hg5 (by simp)
  have K5:Hid (∃v5,Cur w5 cb v5 false/\BV w5 v5 rest/\v5.ownBlock=(Value.slice a R.length c).ownBlock):=by
    obtain⟨v5,g1,g2,g3⟩:=K4.out
    exact⟨v5,g1.grown hg5,g2.grown hg5,g3⟩
  have G5:Hid (w.grownBy w5 (some cb)):=G4.out.trans ⟨hb5.os,hb5.tape,hb5.output,hb5.size,λk hk _=>hb5.block k hk⟩
  have HQ:Hid (Q w4.heap.size w5 l (.slice ea en ec) i p q):=hQ
  have hB4:w.heap.size<w4.heap.size:=X4.out.lt
  have n0:=X5.cell (i:=0) rfl
  have n1:=X5.cell (i:=1) rfl
  have n2:=X5.cell (i:=2) rfl
  have n3:=X5.cell (i:=3) rfl
  have n4:=X5.cell (i:=4) rfl
  have n5:=X5.cell (i:=5) rfl
  have nf:=X5.fr
  have HX5:Hid (Bx w5 w.heap.size 140 zeroR):=X5
  have hcn:w.heap.size≠cb:=by omega
  clear hQ hb5 hg5 X5 hRB G4 K4 X4
  go_wp2
  have hz:=Bx.set6 HX5.out (.int .i64 x) (.int .i64 l) (.slice ea en ec) (.int .i64 i) (.bool p) (.int .i64 q)
  have z0:=hz.cell (i:=0) rfl
  have z1:=hz.cell (i:=1) rfl
  have z2:=hz.cell (i:=2) rfl
  have z3:=hz.cell (i:=3) rfl
  have z4:=hz.cell (i:=4) rfl
  have z5:=hz.cell (i:=5) rfl
  refine bodyPost_ret (v:=.tuple #[.agg #[.int .i64 x,.int .i64 l,.slice ea en ec,.int .i64 i,.bool p,.int .i64 q],.bool true]) (by simp[results,results113,go_sem,z0,z1,z2,z3,z4,z5]) rfl ⟨⟨l,ea,en,ec,i,p,q,w4.heap.size,rfl,hB4,?_⟩,?_,?_⟩
  · have st:=hB.out.2
    exact st _ _ _ _ _ _ _ _ _ _ hB4 (st _ _ _ _ _ _ _ _ _ _ hB4 (st _ _ _ _ _ _ _ _ _ _ hB4 (st _ _ _ _ _ _ _ _ _ _ hB4 (st _ _ _ _ _ _ _ _ _ _ hB4 (st _ _ _ _ _ _ _ _ _ _ hB4 HQ.out)))))
  · obtain⟨v5,g1,g2,g3⟩:=K5.out
    have nv:v5.ownBlock≠some w.heap.size:=by rw[g3];exact hvb.out _ (Nat.le_refl _)
    exact⟨v5,(((((g1.other hcn _ _).other hcn _ _).other hcn _ _).other hcn _ _).other hcn _ _).other hcn _ _,(((((g2.other nv _ _).other nv _ _).other nv _ _).other nv _ _).other nv _ _).other nv _ _,g3⟩
  · have h0:=Nat.le_refl w.heap.size
    exact grown_new (grown_new (grown_new (grown_new (grown_new (grown_new G5.out h0 _ _) h0 _ _) h0 _ _) h0 _ _) h0 _ _) h0 _ _
end Go.Proofs.YtgamgomepdfgdaaGreat
