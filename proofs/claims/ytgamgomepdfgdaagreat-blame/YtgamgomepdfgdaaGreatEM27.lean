import Derived.Test.YtgamgomepdfgdaaGreatEM24
set_option maxRecDepth 100000
set_option maxHeartbeats 8000000
namespace Go.Proofs.YtgamgomepdfgdaaGreat
open Go.RowKit Go.Proofs.Tryz
theorem sl_addr_at {w:World}{e:TypeId}{size n:Nat}{xs:List Value}{g off cap:Nat}(hS:Sl w e size (.slice (some ⟨g,off,none⟩) n cap) n xs)(o:Obj):∀j u,xs[j]? =some u->(w.alloc o).cell? ((⟨g,off,none⟩:Addr).add j)=some u:=λj u hu=>by
  have e:(⟨g,off,none⟩:Addr).add j=⟨g,off+j,none⟩:=by
    unfold Addr.add
    by_cases h:j=0
    · subst h;simp
    · simp[h]
  rw[e]
  exact(hS.mk o).cell hu
theorem row_empty (w:World)(e:TypeId)(size:Nat):(w.alloc (.cells #[] e)).ownsRow w.heap.size e size (.slice (some ⟨w.heap.size,0,none⟩) 0 0) 0 []:=
  ⟨by simp,.inr ⟨w.heap.size,0,#[],rfl,Nat.le_refl _,Bx.new w #[] e,Nat.le_refl _,Nat.zero_le _,by simp,by simp⟩⟩
theorem info_tips:(prog.info? 110).map (λi=>(i.zero,i.size,i.bytes))=some (some (.agg #[.int .i64 0,.slice none 0 0]),2,32):=by kernel_rfl
theorem info_file:(prog.info? 80).map (λi=>(i.zero,i.size,i.bytes))=some (some (.agg #[.string ⟨#[]⟩,.string ⟨#[]⟩]),2,32):=by kernel_rfl
theorem tipClone (xs:List Value)(v:Value)(n:Nat)(w:World)(hS:Sl w 110 2 v n xs)(h1:∀u∈xs,u.oneCell'=true)(hm:n<=maxLen)(hn:n*32<=140737488355328):
    Calls prog 145 #[v] w λe w'=>(∃v',e=.returned v'/\w'.ownsRow w.heap.size 110 2 v' n xs)/\Below w.heap.size w w':=by
  obtain⟨i0,hi,hz0,hz1,hz2⟩:=info_parts info_tips
  have hv:=hS.2
  rcases hv with ⟨rfl,rfl⟩|⟨g,off,cap,cur,rfl,_⟩
  · obtain rfl:xs=[]:=List.eq_nil_of_length_eq_zero (by simpa using hS.1)
    have hnil:∀W:World,(binOp .eql 106 (.slice none 0 0) (.slice none 0 0)).run prog W=.ok (.bool true) W:=λW=>Lib.run_eql_slice_nil W _ _ _ _ _ _ _ underlying106
    go_enter func145,ntmps145
    go_wp2_with fail
    go_ret
    exact⟨⟨_,rfl,World.ownsRow_nil _ _ _ _⟩,Below.refl _ _⟩
  · have HS:Hid (∀o,∀j u,xs[j]? =some u->(w.alloc o).cell? ((⟨g,off,none⟩:Addr).add j)=some u):=sl_addr_at hS
    have H1:Hid (∀u∈xs,u.oneCell'=true):=h1
    have hle:Hid (xs.length=n*2):=hS.1
    have q1:Hid (0+n<=maxLen):=by show _<=_;omega
    have q2:Hid ((0+n)*32<=140737488355328):=by show _<=_;omega
    have hnil:∀W:World,(binOp .eql 106 (.slice (some ⟨g,off,none⟩) n cap) (.slice none 0 0)).run prog W=.ok (.bool false) W:=λW=>Lib.run_eql_slice_nil W _ _ _ _ _ _ _ underlying106
    clear hS h1 hm hn
    go_enter func145,ntmps145
    go_wp2_with (at_builtin;refine wpList_append_own_at _ rfl _ _ 106 rfl w.heap.size _ i0 _ 2 32 underlying106 hi hz0 hz1 hz2 rfl (by decide) (.slice (some ⟨w.heap.size,0,none⟩) 0 0) 0 [] rfl (row_empty w _ _) ⟨g,off,none⟩ n cap xs rfl hle.out (HS.out _) H1.out q1.out q2.out (by simp) ?_;intro v3 w3 hown3 hg3 hnil3 hloc3)
    have hb3:Below w.heap.size w w3:=(below_new _ _).grown hg3 (by simp) (by intro j hj;cases hj;exact Nat.le_refl _)
    have hr3:w3.ownsRow w.heap.size 110 2 v3 n xs:=by simpa using hown3
    obtain⟨a3,c3,rfl⟩:=row_shape3 hr3
    go_wp2_with fail
    go_ret
    exact⟨⟨_,rfl,hr3⟩,hb3⟩
theorem intClone (xs:List Value)(v:Value)(n:Nat)(w:World)(hS:Sl w 3 1 v n xs)(h1:∀u∈xs,u.oneCell'=true)(hm:n<=maxLen)(hn:n*8<=140737488355328):
    Calls prog 146 #[v] w λe w'=>(∃v',e=.returned v'/\w'.ownsRow w.heap.size 3 1 v' n xs)/\Below w.heap.size w w':=by
  obtain⟨i0,hi,hz0,hz1,hz2⟩:=info_parts info_int
  have hv:=hS.2
  rcases hv with ⟨rfl,rfl⟩|⟨g,off,cap,cur,rfl,_⟩
  · obtain rfl:xs=[]:=List.eq_nil_of_length_eq_zero (by simpa using hS.1)
    have hnil:∀W:World,(binOp .eql 56 (.slice none 0 0) (.slice none 0 0)).run prog W=.ok (.bool true) W:=λW=>Lib.run_eql_slice_nil W _ _ _ _ _ _ _ underlying56
    go_enter func146,ntmps146
    go_wp2_with fail
    go_ret
    exact⟨⟨_,rfl,World.ownsRow_nil _ _ _ _⟩,Below.refl _ _⟩
  · have HS:Hid (∀o,∀j u,xs[j]? =some u->(w.alloc o).cell? ((⟨g,off,none⟩:Addr).add j)=some u):=sl_addr_at hS
    have H1:Hid (∀u∈xs,u.oneCell'=true):=h1
    have hle:Hid (xs.length=n*1):=hS.1
    have q1:Hid (0+n<=maxLen):=by show _<=_;omega
    have q2:Hid ((0+n)*8<=140737488355328):=by show _<=_;omega
    have hnil:∀W:World,(binOp .eql 56 (.slice (some ⟨g,off,none⟩) n cap) (.slice none 0 0)).run prog W=.ok (.bool false) W:=λW=>Lib.run_eql_slice_nil W _ _ _ _ _ _ _ underlying56
    clear hS h1 hm hn
    go_enter func146,ntmps146
    go_wp2_with (at_builtin;refine wpList_append_own_at _ rfl _ _ 56 rfl w.heap.size _ i0 _ 1 8 underlying56 hi hz0 hz1 hz2 rfl (by decide) (.slice (some ⟨w.heap.size,0,none⟩) 0 0) 0 [] rfl (row_empty w _ _) ⟨g,off,none⟩ n cap xs rfl hle.out (HS.out _) H1.out q1.out q2.out (by simp) ?_;intro v3 w3 hown3 hg3 hnil3 hloc3)
    have hb3:Below w.heap.size w w3:=(below_new _ _).grown hg3 (by simp) (by intro j hj;cases hj;exact Nat.le_refl _)
    have hr3:w3.ownsRow w.heap.size 3 1 v3 n xs:=by simpa using hown3
    obtain⟨a3,c3,rfl⟩:=row_shape3 hr3
    go_wp2_with fail
    go_ret
    exact⟨⟨_,rfl,hr3⟩,hb3⟩
theorem fileClone (xs:List Value)(v:Value)(n:Nat)(w:World)(hS:Sl w 80 2 v n xs)(h1:∀u∈xs,u.oneCell'=true)(hm:n<=maxLen)(hn:n*32<=140737488355328):
    Calls prog 150 #[v] w λe w'=>(∃v',e=.returned v'/\w'.ownsRow w.heap.size 80 2 v' n xs)/\Below w.heap.size w w':=by
  obtain⟨i0,hi,hz0,hz1,hz2⟩:=info_parts info_file
  have hv:=hS.2
  rcases hv with ⟨rfl,rfl⟩|⟨g,off,cap,cur,rfl,_⟩
  · obtain rfl:xs=[]:=List.eq_nil_of_length_eq_zero (by simpa using hS.1)
    have hnil:∀W:World,(binOp .eql 24 (.slice none 0 0) (.slice none 0 0)).run prog W=.ok (.bool true) W:=λW=>Lib.run_eql_slice_nil W _ _ _ _ _ _ _ underlying24
    go_enter func150,ntmps150
    go_wp2_with fail
    go_ret
    exact⟨⟨_,rfl,World.ownsRow_nil _ _ _ _⟩,Below.refl _ _⟩
  · have HS:Hid (∀o,∀j u,xs[j]? =some u->(w.alloc o).cell? ((⟨g,off,none⟩:Addr).add j)=some u):=sl_addr_at hS
    have H1:Hid (∀u∈xs,u.oneCell'=true):=h1
    have hle:Hid (xs.length=n*2):=hS.1
    have q1:Hid (0+n<=maxLen):=by show _<=_;omega
    have q2:Hid ((0+n)*32<=140737488355328):=by show _<=_;omega
    have hnil:∀W:World,(binOp .eql 24 (.slice (some ⟨g,off,none⟩) n cap) (.slice none 0 0)).run prog W=.ok (.bool false) W:=λW=>Lib.run_eql_slice_nil W _ _ _ _ _ _ _ underlying24
    clear hS h1 hm hn
    go_enter func150,ntmps150
    go_wp2_with (at_builtin;refine wpList_append_own_at _ rfl _ _ 24 rfl w.heap.size _ i0 _ 2 32 underlying24 hi hz0 hz1 hz2 rfl (by decide) (.slice (some ⟨w.heap.size,0,none⟩) 0 0) 0 [] rfl (row_empty w _ _) ⟨g,off,none⟩ n cap xs rfl hle.out (HS.out _) H1.out q1.out q2.out (by simp) ?_;intro v3 w3 hown3 hg3 hnil3 hloc3)
    have hb3:Below w.heap.size w w3:=(below_new _ _).grown hg3 (by simp) (by intro j hj;cases hj;exact Nat.le_refl _)
    have hr3:w3.ownsRow w.heap.size 80 2 v3 n xs:=by simpa using hown3
    obtain⟨a3,c3,rfl⟩:=row_shape3 hr3
    go_wp2_with fail
    go_ret
    exact⟨⟨_,rfl,hr3⟩,hb3⟩
section
open Go.Shelf
attribute [local go_sem] Oper.semAt_some
theorem jIns0 (f:Value)(w:World):
    Calls prog 224 #[.slice none 0 0,.int .i64 0,.int .i64 0,f] w λe w'=>e=.returned (.tuple #[])/\w'=w:=by
  go_enter func224,ntmps224
  go_wp2
  refine wp_loop_rounds 1 ?_
  rw[rounds_succ]
  go_wp2
  go_end0
  exact⟨rfl,rfl⟩
theorem jPdq0 (f:Value)(n:Int)(w:World):
    Calls prog 190 #[.slice none 0 0,.int .i64 0,.int .i64 0,.int .i64 n,f] w λe w'=>e=.returned (.tuple #[])/\w'=w:=by
  go_enter func190,ntmps190
  go_wp2
  refine wp_loop_rounds 1 ?_
  rw[rounds_succ]
  go_wp2_with fail
  go_fit (jIns0 f w)
  rintro e w1 ⟨rfl,rfl⟩
  go_wp2_with fail
  (try simp only[Exit.inBlock,Exit.then]);refine bodyPost_ret (results_none rfl _ _ _) rfl ?_
  exact⟨rfl,rfl⟩
theorem bitsLen0 (w:World):
    Calls prog 191 #[.int .u64 0] w λe w'=>(∃n,e=.returned (.int .i64 n))/\w'=w:=by
  go_enter func191,ntmps191
  go_wp2
  go_ret
  exact⟨⟨_,rfl⟩,rfl⟩
theorem jSort0 (f:Value)(w:World):
    Calls prog 151 #[.slice none 0 0,f] w λe w'=>e=.returned (.tuple #[])/\w'=w:=by
  go_enter func151,ntmps151
  go_wp2_with fail
  go_fit (bitsLen0 w)
  rintro e w1 ⟨⟨n,rfl⟩,rfl⟩
  go_wp2_with fail
  go_fit (jPdq0 f n w1)
  rintro e w2 ⟨rfl,rfl⟩
  go_wp2_with fail
  go_end0
  exact⟨rfl,rfl⟩
end
section
attribute [local go_sem] Oper.semAt_some
def tsGo:List TypeId:=[201,99,110,210,240]
def GoneTo (w w':World)(S:Nat->Prop)(yb mb n0:Nat)(c:Cfg)(s:Ts):Prop:=YardAt w' (Plus S w) yb mb n0 c s/\OnlyT w w' S tsGo
theorem GoneTo.of {w w2 w':World}{S T U:Nat->Prop}{yb mb n0:Nat}{c:Cfg}{s:Ts}{q:List Pw}{sb:Nat}{qv ov:Value}{x:Xt}{ts:List TypeId}(hb:Below w.heap.size w w2)(hY:YardIs w' T yb mb n0 c s q sb qv ov x)(hn:¬Plus S w mb)(hT:∀k,T k->Plus S w k)(hx:x.n<=n0+4*s.outs.length)(hO:OnlyT w2 w' U ts)(hU:∀k,U k->Plus S w k)(hts:∀t∈ts,t∈tsGo):GoneTo w w' S yb mb n0 c s:=
  ⟨⟨q,sb,qv,ov,x,hY.mono hT hn,hx⟩,OnlyT.mono (OnlyT.trans (ts:=[]) (OnlyT.below hb) hO hU) (λ_ h=>h) (by simpa using hts)⟩
theorem Plus.over {S:Nat->Prop}{w w1:World}(h:w.heap.size<=w1.heap.size):∀k,Plus S w1 k->Plus S w k:=λ_ hk=>hk.imp (λe=>e) (Nat.le_trans h)
theorem seg_count {c:Cfg}{b t:Nat}:∀{l:List Sm},(∀x∈l,SmOk c b t x)->l.length<=trainLen l
  |[],_=>Nat.zero_le _
  |x::l,h=>by
    have h1:=seg_count λy hy=>h y (List.mem_cons_of_mem _ hy)
    have h2:=List.length_pos_iff.2 (h x (List.mem_cons_self ..)).ne
    unfold trainLen at h1 ⊢
    rw[List.map_cons,List.sum_cons,List.length_cons]
    omega
theorem tGo_none {S:Nat->Prop}{yb mb n0:Nat}{c:Cfg}{s:Ts}{w:World}{q:List Pw}{sb:Nat}{qv ov:Value}{x:Xt}(h:YardIs w S yb mb n0 c s q sb qv ov x)(hx:x.n<=n0+4*s.outs.length)(hI:s.Inv c)(hc:c.Ok)(hi:s.ids.length<1048575000)(hs:s.segs=[]):
    Calls prog 171 #[ptr yb] w λe w'=>e=.returned (.bool (s.step c).isSome)/\GoneTo w w' S yb mb n0 c ((s.step c).getD s):=by
  obtain⟨tl,zs,hZ⟩:=h.z
  obtain rfl:zs=[]:=by
    have:=hZ.rest.train.snd
    rw[hs] at this
    simpa using this
  have hF:=segFirst_none yb 11 201 x.tv _ w h.box rfl hZ.rest.train.row
  have hnp:=h.np
  have hst:s.step c=if s.queue.isEmpty then none else some (s.pick c):=by
    unfold Ts.step
    rw[hs]
  have HY:Hid (YardIs w S yb mb n0 c s q sb qv ov x):=h
  by_cases hq:s.queue=[]
  · have hst2:s.step c=none:=by rw[hst,hq];rfl
    rw[hst2]
    have hq0:q=[]:=by
      have:=h.qs
      rw[hq] at this
      simpa using this.eq_nil
    subst hq0
    obtain⟨qa,qcap,hqv⟩:=h.que.row.form
    have HP:Hid (∀W,Below w.heap.size w W->Calls prog 207 #[.pointer (some ⟨yb,0,none⟩)] W λe w'=>e=.returned (.bool false)/\w'=W):=λW hW=>tPick_none yb _ qa qcap W (h.later hW).box (by rw[hqv];rfl)
    clear h hZ hst hst2
    unfold ptr
    go_enter func171,ntmps171
    go_wp2_with fail
    go_fit hF
    rintro e w1 ⟨rfl,hb1⟩
    have hP:=HP.out w1 hb1
    go_wp2_with fail
    go_fit hP
    rintro e w2 ⟨rfl,rfl⟩
    go_wp2_with fail
    go_ret
    exact⟨rfl,GoneTo.of (ts:=[]) hb1 (HY.out.later hb1) hnp (Plus.old w) hx (OnlyT.refl _ S _) (Plus.old w) (by simp)⟩
  · have hst2:s.step c=some (s.pick c):=by rw[hst,if_neg (by simpa using hq)]
    rw[hst2]
    have HP:Hid (∀W,Below w.heap.size w W->_):=λW hW=>tPick (h.later hW) hI hc (by omega) hs hq
    clear h hZ hst hst2
    unfold ptr
    go_enter func171,ntmps171
    go_wp2_with fail
    go_fit hF
    rintro e w1 ⟨rfl,hb1⟩
    have hP:=HP.out w1 hb1
    go_wp2_with fail
    go_fit hP
    rintro e w2 ⟨rfl,⟨q',qv',tv',hY'⟩,hO'⟩
    have HG:Hid (GoneTo w w2 S yb mb n0 c (s.pick c)):=GoneTo.of hb1 hY' hnp (Plus.over hb1.size) hx hO' (Plus.old w) (by decide)
    clear hY' hO' hP hF
    go_wp2_with fail
    go_ret
    exact⟨rfl,HG.out⟩
theorem below_drewN (w:World)(n:Nat):Below w.heap.size w (w.drewN n):=⟨rfl,rfl,rfl,Nat.le_refl _,λ_ _=>rfl⟩
theorem step_cons {c:Cfg}{s:Ts}{f:Sm}{m:List Sm}(hs:s.segs=f::m):s.step c=if (makes s.tip f.l).2=0 then some (s.conflict f m)
    else if (makes s.tip f.l).2<f.l.length then some (s.split f (makes s.tip f.l).2 m)
    else if f.by_≠0 then some (s.land f m)
    else if c.retries<f.fails then some (s.blame f m)
    else none:=by
  unfold Ts.step
  rw[hs]
theorem Ts.blame_outs (s:Ts)(f:Sm)(m:List Sm):s.outs.length<=(s.blame f m).outs.length:=by
  unfold Ts.blame Ts.split
  split<;>simp
theorem tGo_some {S:Nat->Prop}{yb mb n0:Nat}{c:Cfg}{s:Ts}{w:World}{q:List Pw}{sb:Nat}{qv ov:Value}{x:Xt}(h:YardIs w S yb mb n0 c s q sb qv ov x)(hx:x.n<=n0+4*s.outs.length)(hI:s.Inv c)(hi:s.ids.length<1048575000)(h0:n0<1048576000){f:Sm}{m:List Sm}(hs:s.segs=f::m):
    Calls prog 171 #[ptr yb] w λe w'=>e=.returned (.bool (s.step c).isSome)/\GoneTo w w' S yb mb n0 c ((s.step c).getD s):=by
  obtain⟨tl,zs0,hZ⟩:=h.z
  obtain⟨p,zs,rfl,rfl⟩:∃p zs,zs0=(p,f)::zs/\zs.map Prod.snd=m:=by
    have:=hZ.rest.train.snd
    rw[hs] at this
    cases zs0 with
    |nil=>simp at this
    |cons z zs=>
      rw[List.map_cons,List.cons.injEq] at this
      exact⟨z.1,zs,by rw[<-this.1],this.2⟩
  have hrow:=hZ.rest.train.row
  rw[List.length_cons,List.map_cons] at hrow
  have hF:=segFirst_some yb 11 zs.length 201 (ptr p) x.tv (some ⟨p,0,none⟩) rfl _ _ w h.box rfl hrow
  have hsm:SmOk c s.begun s.now f:=hI.sm f (by rw[hs];simp)
  have hpos:=List.length_pos_iff.2 hsm.ne
  have hlen:zs.length+f.l.length<=8:=by
    have h1:=hI.tr
    rw[hs] at h1
    have h2:=seg_count (l:=zs.map Prod.snd) λy hy=>hI.sm y (by rw[hs];exact List.mem_cons_of_mem _ hy)
    unfold trainLen at h1 h2
    rw[List.map_cons,List.sum_cons] at h1
    rw[List.length_map] at h2
    omega
  have hou:s.outs.length<=s.ids.length:=by have:=hI.cnt;omega
  have hma:=hI.main
  have hnp:=h.np
  have hst:=step_cons (c:=c) hs
  have HC:Hid (∀W,Below w.heap.size w W->Calls prog 208 #[.map (some x.tip)] W λe w'=>e=.returned (.map (some W.heap.size))/\FilesMap w' W.heap.size x.n s.tip/\Below W.heap.size W w'):=λW hW=>setClone x.tip x.n s.tip W (hZ.later hW).rest.map
  have HZ:Hid (YardZ w S yb mb n0 c s q sb qv ov x tl ((p,f)::zs)):=hZ
  have HSt:Hid (s.step c=if (makes s.tip f.l).2=0 then some (s.conflict f (zs.map Prod.snd)) else if (makes s.tip f.l).2<f.l.length then some (s.split f (makes s.tip f.l).2 (zs.map Prod.snd)) else if f.by_≠0 then some (s.land f (zs.map Prod.snd)) else if c.retries<f.fails then some (s.blame f (zs.map Prod.snd)) else none):=hst
  have HSm:Hid (SmOk c s.begun s.now f):=hsm
  have HI:Hid (s.Inv c):=hI
  have HX:Hid (x.n<=n0+4*s.outs.length):=hx
  clear h hZ hrow hst hsm hI hx hs
  unfold ptr at hF
  unfold ptr
  go_enter func171,ntmps171
  go_wp2_with fail
  go_fit hF
  rintro e w1 ⟨rfl,hb1⟩
  have hC:=HC.out w1 hb1
  have y7:w1.cell? ⟨yb,7,none⟩=some (.map (some x.tip)):=(HZ.out.later hb1).is.box.cell (i:=7) rfl
  clear hF
  go_wp2_with fail
  go_fit hC
  rintro e w2 ⟨rfl,hM2,hb2⟩
  have hb12:Below w.heap.size w w2:=hb1.trans (hb2.mono hb1.size)
  obtain⟨cv,jv,cl,hseg⟩:=(HZ.out.later hb12).rest.train.segs (p,f) (by simp)
  have hA:=segApply S (s.top n0) p w1.heap.size x.n f cv jv cl s.tip w2 hseg hM2 (λy hy=>(HSm.out.eds y hy).2) (by omega) (by have:=HX.out;omega)
  have hM2':=hM2
  clear hC y7 hseg hM2
  go_wp2_with fail
  go_fit hA
  rintro e w3 ⟨rfl,hM3,hg3⟩
  have hb3:Below w.heap.size w w3:=below_own hb12 (Nat.le_refl _) hg3 (B:=w.heap.size) (λr e=>by cases e;exact hb1.size) (Nat.le_refl _)
  have hZ3:=HZ.out.later hb3
  obtain⟨cv,jv,cl,hseg⟩:=hZ3.rest.train.segs (p,f) (by simp)
  have hcl:cl.length=f.l.length:=by rw[<-hseg.chs.fst,List.length_map]
  obtain⟨g,off,cap,rfl,hnc,hcm⟩:=hseg.chs.row.addr (by omega)
  have c0:w3.cell? ⟨p,0,none⟩=some (.slice (some ⟨g,off,none⟩) f.l.length cap):=by rw[<-hcl];exact hseg.box.cell (i:=0) rfl
  have hw13:w1.heap.size<w3.heap.size:=by
    have h1:=hg3.size
    have h2:=hM2'.lt
    omega
  have HB3:Hid (Below w.heap.size w w3):=hb3
  have HW1:Hid (w.heap.size<=w1.heap.size):=hb1.size
  have HZ3:Hid (YardZ w3 S yb mb n0 c s q sb qv ov x tl ((p,f)::zs)):=hZ3
  have HM3:Hid ((makes s.tip f.l).2=f.l.length->FilesMap w3 w1.heap.size (x.n+4*f.l.length) (makes s.tip f.l).1):=hM3
  have HSeg:Hid (SegIs w3 S (s.top n0) p f (.slice (some ⟨g,off,none⟩) cl.length cap) jv cl):=hseg
  have hpass:=segPassed p f.by_ _ w3 hseg.box rfl (decide (f.by_≠0)) rfl
  have hfail:=yFailed yb p f.fails c.retries _ _ w3 hZ3.is.box rfl hseg.box rfl (decide (c.retries<f.fails)) rfl
  have hal:(makes s.tip f.l).2<=f.l.length:=makes_le _ _
  clear hb1 hb2 hb12 hb3 hZ3 hM3 hseg hA hg3 hM2'
  generalize ha:(makes s.tip f.l).2=a at *
  have HA:Hid ((makes s.tip f.l).2=a):=ha
  clear ha
  unfold ptr at hpass hfail
  by_cases ha0:a=0
  · subst ha0
    have hR:=tConflict HZ3.out (List.length_pos_iff.1 hpos) (by omega) HI.out.ack (by omega)
    unfold ptr at hR
    clear hpass hfail
    go_wp2_with fail
    refine hR.mono ?_
    rintro e w4 ⟨rfl,⟨ov4,tv4,zs4,hY4⟩,hO4⟩
    have HG:Hid (GoneTo w w4 S yb mb n0 c (s.conflict f (zs.map Prod.snd))):=GoneTo.of HB3.out hY4.is hnp (Plus.over HB3.out.size) (by have:=HX.out;show x.n<=n0+4*(s.outs++_).length;rw[List.length_append];omega) hO4 (Plus.old w) (by decide)
    have Hst:Hid (s.step c=some (s.conflict f (zs.map Prod.snd))):=by
      show _=_
      rw[HSt.out];simp
    clear hY4 hO4 hR
    go_wp2_with fail
    go_ret
    rw[Hst.out]
    exact⟨rfl,HG.out⟩
  · have q1:((a:Int)==0)=false:=by simp;omega
    by_cases hal2:a<f.l.length
    · have hR:=tSplit (k:=a) HZ3.out (by omega) hal2 (by omega) (by omega)
      have Hst:Hid (s.step c=some (s.split f a (zs.map Prod.snd))):=by
        show _=_
        rw[HSt.out,if_neg ha0,if_pos hal2]
      have q2:decide ((a:Int)<(f.l.length:Int))=true:=by rw[decide_eq_true_iff];omega
      have q3:(a:Int)<(f.l.length:Int):=by omega
      unfold ptr at hR
      clear hpass hfail
      go_wp2_with fail
      refine hR.mono ?_
      rintro e w4 ⟨rfl,⟨tv4,zs4,hY4,hz4⟩,hO4⟩
      have HG:Hid (GoneTo w w4 S yb mb n0 c (s.split f a (zs.map Prod.snd))):=GoneTo.of HB3.out hY4.is hnp (Plus.over HB3.out.size) HX.out hO4 (Plus.old w) (by decide)
      clear hY4 hO4 hR
      go_wp2_with fail
      go_ret
      rw[Hst.out]
      exact⟨rfl,HG.out⟩
    · have hae:a=f.l.length:=by omega
      have q2:decide ((a:Int)<(f.l.length:Int))=false:=by rw[decide_eq_false_iff_not];omega
      have q3:¬(a:Int)<(f.l.length:Int):=by omega
      by_cases hby:f.by_=0
      · by_cases hfa:c.retries<f.fails
        · have Hst:Hid (s.step c=some (s.blame f (zs.map Prod.snd))):=by
            show _=_
            rw[HSt.out,if_neg ha0,if_neg hal2,if_neg (by simpa using hby),if_pos hfa]
          have HR:Hid (∀n,_):=λn=>tBlame (HZ3.out.later (below_drewN w3 n)) (List.length_pos_iff.1 hpos) (by omega) (by omega) HI.out.ack
          have hby':decide (f.by_≠0)=false:=by simpa using hby
          have hfa':decide (c.retries<f.fails)=true:=by simpa using hfa
          rw[hby'] at hpass
          rw[hfa'] at hfail
          clear hby' hfa'
          go_wp2_with (first|(go_at_call 189;refine hpass.mono ?_;rintro e w4 ⟨rfl,rfl⟩)|(go_at_call 213;refine hfail.mono ?_;rintro e w4 ⟨rfl,nq,rfl⟩))
          have hR:=HR.out nq
          unfold ptr at hR
          refine hR.mono ?_
          rintro e w5 ⟨rfl,⟨ov5,tv5,zs5,hY5⟩,hO5⟩
          have HG:Hid (GoneTo w w5 S yb mb n0 c (s.blame f (zs.map Prod.snd))):=GoneTo.of (HB3.out.trans ((below_drewN _ nq).mono HB3.out.size)) hY5.is hnp (Plus.over HB3.out.size) (by have:=HX.out;have:=Ts.blame_outs s f (zs.map Prod.snd);show x.n<=_;omega) hO5 (Plus.old w) (by decide)
          clear hY5 hO5 hR hpass hfail
          go_wp2_with fail
          go_ret
          rw[Hst.out]
          exact⟨rfl,HG.out⟩
        · have Hst:Hid (s.step c=none):=by
            show _=_
            rw[HSt.out,if_neg ha0,if_neg hal2,if_neg (by simpa using hby),if_neg hfa]
          have hby':decide (f.by_≠0)=false:=by simpa using hby
          have hfa':decide (c.retries<f.fails)=false:=by simpa using hfa
          rw[hby'] at hpass
          rw[hfa'] at hfail
          clear hby' hfa'
          go_wp2_with (first|(go_at_call 189;refine hpass.mono ?_;rintro e w4 ⟨rfl,rfl⟩)|(go_at_call 213;refine hfail.mono ?_;rintro e w4 ⟨rfl,nq,rfl⟩))
          go_ret
          rw[Hst.out]
          exact⟨rfl,GoneTo.of (ts:=[]) (HB3.out.trans ((below_drewN _ nq).mono HB3.out.size)) (HZ3.out.is.later (below_drewN _ nq)) hnp (Plus.old w) HX.out (OnlyT.refl _ S _) (Plus.old w) (by simp)⟩
      · have Hst:Hid (s.step c=some (s.land f (zs.map Prod.snd))):=by
          show _=_
          rw[HSt.out,if_neg ha0,if_neg hal2,if_pos hby]
        have hM:=HM3.out hae
        have hZp:=HZ3.out.mono (Plus.old w) hnp
        have hR:=tLand hZp hM (.inr HW1.out) (by have:=HZ.out.is.sub.lt;have:=HW1.out;omega) (by omega) (by omega) HI.out.ack (by omega)
        have hby':decide (f.by_≠0)=true:=by simpa using hby
        rw[hby'] at hpass
        unfold ptr at hR
        clear hfail hM hZp hby' hby
        go_wp2_with (go_at_call 189;refine hpass.mono ?_;rintro e w4 ⟨rfl,rfl⟩)
        refine hR.mono ?_
        rintro e w5 ⟨rfl,⟨ov5,mv5,tv5,tl5,hY5⟩,hO5⟩
        have HG:Hid (GoneTo w w5 S yb mb n0 c (s.land f (zs.map Prod.snd))):=GoneTo.of HB3.out hY5.is hnp (Plus.two HB3.out.size) (by have:=HX.out;show x.n+4*f.l.length<=n0+4*(s.outs++lnd f.l).length;unfold lnd;rw[List.length_append,List.length_map];omega) hO5 (λ_ h=>h) (by decide)
        clear hY5 hO5 hR hpass
        go_wp2_with fail
        go_ret
        rw[Hst.out]
        exact⟨rfl,HG.out⟩
theorem tGoOn {S:Nat->Prop}{yb mb n0:Nat}{c:Cfg}{s:Ts}{w:World}(h:YardAt w S yb mb n0 c s)(hI:s.Inv c)(hc:c.Ok)(hi:s.ids.length<1048575000)(h0:n0<1048576000):
    Calls prog 171 #[ptr yb] w λe w'=>e=.returned (.bool (s.step c).isSome)/\GoneTo w w' S yb mb n0 c ((s.step c).getD s):=by
  obtain⟨q,sb,qv,ov,x,h,hx⟩:=h
  cases hs:s.segs with
  |nil=>exact tGo_none h hx hI hc hi hs
  |cons f m=>exact tGo_some h hx hI hi h0 hs
end
section
open Go.Shelf
structure BegIs (w W:World)(S:Nat->Prop)(yb n0:Nat)(c:Cfg)(s:Ts)(qv:Value)(sb:Nat)(ov:Value)(x:Xt)(zs:List (Nat×Sm))(b2 bm:Nat)(t:Bs):Prop where
  only:OnlyT w W S [201,240]
  yard:Bx W yb 201 (yardCells c x t.b s.now qv sb s.outs.length ov)
  segs:∀z∈zs,SegAt W (Plus S w) (s.top n0) (z.1,t.sg z.1)
  box:Bx W b2 132 #[.map (some bm)]
  me:Bx W w.heap.size 130 #[.pointer (some ⟨yb,0,none⟩)]
theorem BegIs.own {w:World}{S:Nat->Prop}{yb n0:Nat}{c:Cfg}{s:Ts}{qv:Value}{sb:Nat}{ov:Value}{x:Xt}{zs:List (Nat×Sm)}{b2 bm:Nat}{t:Bs}{W W':World}{row:Option Nat}{B:Nat}(h:BegIs w W S yb n0 c s qv sb ov x zs b2 bm t)(hw:w.heap.size<B)(hy:yb<B)(h2:b2<B)(hg:W.grownBy W' row)(hr:∀r,row=some r->B<=r/\∃o:Obj,W.heap[r]? =some o/\o.isCells=false):BegIs w W' S yb n0 c s qv sb ov x zs b2 bm t:=
  ⟨h.only.own (Nat.le_of_lt hw) hg λr e=>(hr r e).1,bx_own h.yard hg (λr e=>(hr r e).1) hy,λz hz=>(h.segs z hz).keptT (KeepT.own hg λr e=>(hr r e).2) (λ_ h=>h) (Nat.le_refl _) (by decide) (by unfold NoSeg;decide),bx_own h.box hg (λr e=>(hr r e).1) h2,bx_own h.me hg (λr e=>(hr r e).1) hw⟩
theorem map_own {W W':World}{row:Option Nat}{B bm n:Nat}{g:ByteArray->ByteArray}(h:FilesMap W bm n g)(hg:W.grownBy W' row)(hr:∀r,row=some r->B<=r)(hb:bm<B):FilesMap W' bm n g:=h.same (hg.block bm h.lt λe=>by have:=hr bm e.symm;omega)
theorem BegIs.step {w:World}{S:Nat->Prop}{yb n0:Nat}{c:Cfg}{s:Ts}{qv:Value}{sb:Nat}{ov:Value}{x:Xt}{zs:List (Nat×Sm)}{b2 b3 bm p:Nat}{t t':Bs}{W W':World}{cb3:Array Value}{n:Nat}{g:ByteArray->ByteArray}(h:BegIs w W S yb n0 c s qv sb ov x zs b2 bm t){y:Sm}(hp:(p,y)∈zs)(hSy:S yb)(hSp:S p)(hyw:yb<w.heap.size)(hpw:p<w.heap.size)(hTp:TyAt w p 240)(hTy:TyAt w yb 201)(hb3:Bx W b3 3 cb3)(hbm:FilesMap W bm n g)(hw3:w.heap.size<=b3)(hwm:w.heap.size<=bm)(hO:Only W W' (λk=>k=bm\/k=b3\/k=yb\/k=p))(hy:Bx W' yb 201 (yardCells c x t'.b s.now qv sb s.outs.length ov))(hs:SegAt W' (Plus S w) (s.top n0) (p,t'.sg p))(hsg:∀k,k≠p->t'.sg k=t.sg k):BegIs w W' S yb n0 c s qv sb ov x zs b2 bm t':=by
  have T3:=hb3.ty
  have Tm:=hbm.ty
  have Ty:=h.yard.ty
  have Tp:TyAt W p 240:=by
    obtain⟨_,_,_,hz⟩:=h.segs (p,y) hp
    exact hz.box.ty
  have keep:∀k ty,TyAt W k ty->ty∉[tMap,3,201,240]->W'.heap[k]? =W.heap[k]? :=λk ty hk hn=>hO.block k hk.lt λe=>by
    rcases e with rfl|rfl|rfl|rfl
    · exact hn (by rw[hk.one Tm];simp)
    · exact hn (by rw[hk.one T3];simp)
    · exact hn (by rw[hk.one Ty];simp)
    · exact hn (by rw[hk.one Tp];simp)
  have K:KeepT W W' [tMap,3,201,240]:=⟨hO.size,λk ty hk hn=>keep k ty hk hn⟩
  refine⟨⟨hO.os.trans (Only.os h.only),hO.tape.trans (Only.tape h.only),hO.output.trans (Only.output h.only),Nat.le_trans h.only.size hO.size,λk hk hn=>?_⟩,hy,λz hz=>?_,(keep _ _ h.box.ty (by decide)).trans h.box,(keep _ _ h.me.ty (by decide)).trans h.me⟩
  · refine(hO.block k (Nat.lt_of_lt_of_le hk h.only.size) λe=>?_).trans (Only.block h.only k hk hn)
    rcases e with rfl|rfl|rfl|rfl
    · omega
    · omega
    · exact hn ⟨hSy,_,by simp,hTy⟩
    · exact hn ⟨hSp,_,by simp,hTp⟩
  · by_cases e:z.1=p
    · rw[e];exact hs
    · rw[hsg _ e]
      obtain⟨cv,jv,cl,hseg⟩:=h.segs z hz
      refine⟨cv,jv,cl,(hO.block _ hseg.box.lt λe'=>?_).trans hseg.box,hseg.chs.keptT K (λ_ h=>h) (by decide) (by decide),hseg.job.keptT K (λ_ h=>h) (Nat.le_refl _) (by decide) (by decide),hseg.own⟩
      have Tz:=hseg.box.ty
      rcases e' with rfl|rfl|rfl|rfl
      · exact absurd (Tz.one Tm) (by decide)
      · exact absurd (Tz.one T3) (by decide)
      · exact absurd (Tz.one Ty) (by decide)
      · exact e rfl
theorem BegIs.done {w:World}{S:Nat->Prop}{yb mb n0:Nat}{c:Cfg}{s:Ts}{q:List Pw}{qv:Value}{sb:Nat}{ov:Value}{x:Xt}{tl:List Tp}{zs:List (Nat×Sm)}{b2 bm:Nat}{t:Bs}{W:World}(hZ:YardZ w S yb mb n0 c s q sb qv ov x tl zs)(h:BegIs w W S yb n0 c s qv sb ov x zs b2 bm t)(he:begins c s.now c.window s.segs s.tip s.begun=(zs.map λz=>t.sg z.1,t.b)):YardZ W (Plus S w) yb mb n0 c (s.begin c) q sb qv ov x tl (zs.map λz=>(z.1,t.sg z.1)):=by
  have O:=h.only
  have hp:=Plus.old (S:=S) w
  have hB:(s.begin c).begun=t.b:=by unfold Ts.begin;rw[he]
  have hSg:(s.begin c).segs=zs.map λz=>t.sg z.1:=by unfold Ts.begin;rw[he]
  refine YardZ.mk' ⟨hZ.is.np,Nat.lt_of_lt_of_le hZ.rest.ml O.size,hZ.rest.tip.imp (λe=>e) .inl,O.map hZ.rest.map (by decide),hZ.rest.main.keptT O.k hp (by decide) (by decide),?_,?_,hZ.rest.train.own.mono hp,?_,λz hz=>?_⟩ hZ.is.qs ?_ (hZ.is.que.keptT O.k hp (by decide) (by decide)) (O.sub hZ.is.sub (by decide)) (hZ.is.outs.keptT O.k hp (by decide)) (.inl hZ.is.fy) (.inl hZ.is.fs) hZ.is.nt
  · rw[List.map_map,hSg];rfl
  · have:=O.sl hZ.rest.train.row (by decide)
    rw[List.length_map,List.map_map]
    exact this
  · have:=hZ.rest.train.nd
    rw[List.map_map]
    exact this
  · obtain⟨z',hz',rfl⟩:=List.mem_map.1 hz
    exact h.segs z' hz'
  · rw[hB];exact h.yard
def sgOf (zs:List (Nat×Sm))(p:Nat):Sm:=((zs.find? λz=>z.1==p).map Prod.snd).getD (Sm.new [])
theorem sgOf_mem {p:Nat}{y:Sm}:∀{zs:List (Nat×Sm)},(zs.map Prod.fst).Nodup->(p,y)∈zs->sgOf zs p=y
  |[],_,h=>by cases h
  |a::l,hn,h=>by
    rw[List.map_cons,List.nodup_cons] at hn
    unfold sgOf
    rw[List.find?_cons]
    by_cases e:a.1=p
    · have:a=(p,y):=by
        rcases List.mem_cons.1 h with h|h
        · exact h.symm
        · exact absurd (List.mem_map.2 ⟨_,h,e.symm⟩) hn.1
      simp[this]
    · have hm:(p,y)∈l:=by
        rcases List.mem_cons.1 h with h|h
        · exact absurd (by rw[<-h]) e
        · exact h
      have:=sgOf_mem hn.2 hm
      unfold sgOf at this
      rw[show (a.1==p)=false by simpa using e]
      exact this
def bs0 (c:Cfg)(s:Ts)(zs:List (Nat×Sm)):Bs:=⟨sgOf zs,s.tip,s.begun,c.window⟩
theorem bs0_segs {c:Cfg}{s:Ts}{zs:List (Nat×Sm)}(hn:(zs.map Prod.fst).Nodup)(hs:zs.map Prod.snd=s.segs):(zs.map Prod.fst).map (bs0 c s zs).sg=s.segs:=by
  rw[<-hs,List.map_map]
  exact List.map_congr_left λz hz=>sgOf_mem hn hz
theorem bs_begins {c:Cfg}{s:Ts}{zs:List (Nat×Sm)}(hn:(zs.map Prod.fst).Nodup)(hs:zs.map Prod.snd=s.segs)(m rest:List Nat)(hm:zs.map Prod.fst=m++rest)(hg:(bs0 c s zs).goes c s.now m)(hr:rest=[]\/∃p l,rest=p::l/\¬((bs0 c s zs).all c s.now m).go c p):
    begins c s.now c.window s.segs s.tip s.begun=(zs.map λz=>((bs0 c s zs).all c s.now m).sg z.1,((bs0 c s zs).all c s.now m).b):=by
  have:=begins_seq (c:=c) (now:=s.now) m rest (bs0 c s zs) (hm▸hn) hg hr
  rw[<-hm,bs0_segs hn hs,List.map_map] at this
  exact this
def BegInv (w W:World)(S:Nat->Prop)(yb n0:Nat)(c:Cfg)(s:Ts)(qv:Value)(sb:Nat)(ov:Value)(x:Xt)(zs:List (Nat×Sm))(b2 b3 bm:Nat)(pre:List Nat):Prop:=
  BegIs w W S yb n0 c s qv sb ov x zs b2 bm ((bs0 c s zs).all c s.now pre)/\Bx W b3 3 #[.int .i64 ((bs0 c s zs).all c s.now pre).r]/\FilesMap W bm (x.n+32*pre.length) ((bs0 c s zs).all c s.now pre).g/\(bs0 c s zs).goes c s.now pre
def BegEnd (w W:World)(S:Nat->Prop)(yb n0:Nat)(c:Cfg)(s:Ts)(qv:Value)(sb:Nat)(ov:Value)(x:Xt)(zs:List (Nat×Sm))(b2 bm:Nat)(cd:Code)(pre:List Nat):Prop:=
  cd=.ret/\∃l p,pre=l++[p]/\BegIs w W S yb n0 c s qv sb ov x zs b2 bm ((bs0 c s zs).all c s.now l)/\(bs0 c s zs).goes c s.now l/\¬((bs0 c s zs).all c s.now l).go c p
theorem BegInv.own {w:World}{S:Nat->Prop}{yb n0:Nat}{c:Cfg}{s:Ts}{qv:Value}{sb:Nat}{ov:Value}{x:Xt}{zs:List (Nat×Sm)}{b2 b3 bm B:Nat}{ps:List Nat}(hw:w.heap.size<B)(hy:yb<B)(h2:b2<B)(h3:b3<B)(hm:bm<B):OwnFrom B (λ(pre:List (Pt ps)) W=>BegInv w W S yb n0 c s qv sb ov x zs b2 b3 bm (pre.map Subtype.val)):=λ_ _ _ _ hs hg hr=>
  ⟨hs.1.own hw hy h2 hg hr,bx_own hs.2.1 hg (λr e=>(hr r e).1) h3,map_own hs.2.2.1 hg (λr e=>(hr r e).1) hm,hs.2.2.2⟩
theorem BegEnd.own {w:World}{S:Nat->Prop}{yb n0:Nat}{c:Cfg}{s:Ts}{qv:Value}{sb:Nat}{ov:Value}{x:Xt}{zs:List (Nat×Sm)}{b2 bm B:Nat}{ps:List Nat}(hw:w.heap.size<B)(hy:yb<B)(h2:b2<B)(cd:Code):OwnFrom B (λ(pre:List (Pt ps)) W=>BegEnd w W S yb n0 c s qv sb ov x zs b2 bm cd (pre.map Subtype.val)):=λ_ _ _ _ hs hg hr=>by
  obtain⟨rfl,l,p,e,h,h1,h2'⟩:=hs
  exact⟨rfl,l,p,e,h.own hw hy h2 hg hr,h1,h2'⟩
theorem Bs.all_same (c:Cfg)(now:Nat):∀(l:List Nat) (t:Bs) (p:Nat),((t.all c now l).sg p).l=(t.sg p).l/\((t.all c now l).sg p).fails=(t.sg p).fails/\((t.all c now l).sg p).by_=(t.sg p).by_
  |[],_,_=>⟨rfl,rfl,rfl⟩
  |k::l,t,p=>by
    have h:=Bs.all_same c now l (t.step c now k) p
    have h2:((t.step c now k).sg p).l=(t.sg p).l/\((t.step c now k).sg p).fails=(t.sg p).fails/\((t.step c now k).sg p).by_=(t.sg p).by_:=by
      unfold Bs.step Bs.put
      by_cases e:p=k
      · subst e
        simp only[if_true]
        split<;>simp
      · simp only[if_neg e,and_self]
    show ((((t.step c now k).all c now l).sg p).l=_)/\_
    exact⟨h.1.trans h2.1,h.2.1.trans h2.2.1,h.2.2.trans h2.2.2⟩
theorem BegIs.drewN {w:World}{S:Nat->Prop}{yb n0:Nat}{c:Cfg}{s:Ts}{qv:Value}{sb:Nat}{ov:Value}{x:Xt}{zs:List (Nat×Sm)}{b2 bm:Nat}{t:Bs}{W:World}(h:BegIs w W S yb n0 c s qv sb ov x zs b2 bm t)(n:Nat):BegIs w (W.drewN n) S yb n0 c s qv sb ov x zs b2 bm t:=
  ⟨h.only.drewN n,h.yard,λz hz=>(h.segs z hz).keptT (KeepT.drewN W n) (λ_ h=>h) (Nat.le_refl _) (by decide) (by unfold NoSeg;decide),h.box,h.me⟩
theorem BegIs.bmOnly {w:World}{S:Nat->Prop}{yb n0:Nat}{c:Cfg}{s:Ts}{qv:Value}{sb:Nat}{ov:Value}{x:Xt}{zs:List (Nat×Sm)}{b2 bm:Nat}{t:Bs}{W W':World}{n:Nat}{g:ByteArray->ByteArray}(h:BegIs w W S yb n0 c s qv sb ov x zs b2 bm t)(hbm:FilesMap W bm n g)(hwm:w.heap.size<=bm)(hO:Only W W' (λk=>k=bm)):BegIs w W' S yb n0 c s qv sb ov x zs b2 bm t:=by
  have Tm:=hbm.ty
  have keep:∀k ty,TyAt W k ty->ty∉[tMap]->W'.heap[k]? =W.heap[k]? :=λk ty hk hn=>hO.block k hk.lt λe=>by
    subst e
    exact hn (by rw[hk.one Tm];simp)
  have K:KeepT W W' [tMap]:=⟨hO.size,λk ty hk hn=>keep k ty hk hn⟩
  exact⟨⟨hO.os.trans (Only.os h.only),hO.tape.trans (Only.tape h.only),hO.output.trans (Only.output h.only),Nat.le_trans h.only.size hO.size,λk hk hn=>(hO.block k (Nat.lt_of_lt_of_le hk h.only.size) (by omega)).trans (Only.block h.only k hk hn)⟩,(keep _ _ h.yard.ty (by decide)).trans h.yard,λz hz=>(h.segs z hz).keptT K (λ_ h=>h) (Nat.le_refl _) (by decide) (by unfold NoSeg;decide),(keep _ _ h.box.ty (by decide)).trans h.box,(keep _ _ h.me.ty (by decide)).trans h.me⟩
theorem keeps_below {W W':World}{B:Nat}{T:Nat->Prop}(hO:Only W W' T)(hT:∀k,T k->k<B):KeepsFrom B W W':=⟨hO.size,λk _ hB hk _=>(hO.block k (Array.getElem?_eq_some_iff.1 hk).1 λe=>by have:=hT k e;omega).trans hk⟩
theorem seg_len {y:Sm}:∀{l:List Sm},y∈l->y.l.length<=trainLen l
  |[],h=>by cases h
  |x::l,h=>by
    unfold trainLen
    rw[List.map_cons,List.sum_cons]
    rcases List.mem_cons.1 h with rfl|h
    · omega
    · have:=seg_len h
      unfold trainLen at this
      omega
theorem Bs.all_r (c:Cfg)(now:Nat):∀(l:List Nat) (t:Bs),(t.all c now l).r<=t.r
  |[],_=>Nat.le_refl _
  |k::l,t=>Nat.le_trans (Bs.all_r c now l (t.step c now k)) (Nat.sub_le _ _)
theorem Bs.all_b (c:Cfg)(now:Nat):∀(l:List Nat) (t:Bs),(t.all c now l).b<=t.b+l.length
  |[],_=>Nat.le_refl _
  |k::l,t=>by
    have h:=Bs.all_b c now l (t.step c now k)
    have h2:(t.step c now k).b<=t.b+1:=by
      unfold Bs.step
      simp only
      split<;>omega
    show ((t.step c now k).all c now l).b<=_
    rw[List.length_cons]
    omega
end
section
open Go.Shelf
attribute [local go_sem] Oper.semAt_some
theorem setClone2 (mb:Nat)(es:Array MapEntry)(clock:Nat)(w:World)(hb:w.heap[mb]? =some (.map es clock)):
    Calls prog 208 #[.map (some mb)] w λe w'=>e=.returned (.map (some w.heap.size))/\w'=w.alloc (.map es clock):=by
  go_enter func208,ntmps208
  go_wp2_with fail
  go_fit (mapsClone mb es clock w hb)
  rintro e w1 ⟨rfl,rfl⟩
  go_wp2_with fail
  go_ret
  exact⟨rfl,rfl⟩
theorem wpIn_plain {n:Nat}{P:Program}{x:Code}{K:Act->World->Prop}{Q:Exit->Act->World->Prop}{a:Act}{w:World}(h:x.wp P (Exit.then K λ_ _ _=>False) a w):x.wpIn Fence.wide n P (Exit.then K Q) a w:=
  wpIn_mono (wpIn_wide.2 h) λe a w hq=>by cases e<;>first|exact hq|exact hq.elim
theorem wpIn_ends {F:Fence}{n:Nat}{P:Program}{x:Code}{Q:Exit->Act->World->Prop}{a:Act}{w:World}(R:World->Prop)(hR:∀a W',R W'->Q .normal a W')(h:x.wpIn F n P (λe _ W'=>e=.normal/\R W') a w):x.wpIn F n P Q a w:=
  wpIn_mono h λe a W' hq=>by
    obtain⟨rfl,hr⟩:=hq
    exact hR a W' hr
theorem keep_alloc {w:World}{k:Nat}{o0:Obj}(h:w.heap[k]? =some o0)(o:Obj):(w.alloc o).heap[k]? =some o0:=((below_new w o).block k (Array.getElem?_eq_some_iff.1 h).1).trans h
theorem three_new (w:World)(A B C:Obj):(((w.alloc A).alloc B).alloc C).heap[w.heap.size]? =some A/\(((w.alloc A).alloc B).alloc C).heap[w.heap.size+1]? =some B/\(((w.alloc A).alloc B).alloc C).heap[w.heap.size+1+1]? =some C/\Below w.heap.size w (((w.alloc A).alloc B).alloc C):=by
  have h1:(w.alloc A).heap.size=w.heap.size+1:=World.size_alloc ..
  have h2:((w.alloc A).alloc B).heap.size=w.heap.size+1+1:=by rw[World.size_alloc,h1]
  have e1:=World.alloc_heap_new w A
  have e2:=World.alloc_heap_new (w.alloc A) B
  have e3:=World.alloc_heap_new ((w.alloc A).alloc B) C
  rw[h1] at e2
  rw[h2] at e3
  exact⟨keep_alloc (keep_alloc e1 _) _,keep_alloc e2 _,e3,((below_new w _).trans ((below_new _ _).mono (by omega))).trans ((below_new _ _).mono (by omega))⟩
def RoomIs (w W:World)(es:Array MapEntry)(clock:Nat)(win:Nat)(b2 b3 bm:Nat):Prop:=
  Below w.heap.size w W/\w.heap.size<=b2/\w.heap.size<=b3/\Bx W b2 132 #[.map (some bm)]/\Bx W b3 3 #[.int .i64 win]/\W.heap[bm]? =some (.map es clock)/\w.heap.size<=bm
set_option linter.unusedSimpArgs false in
theorem tBegin {S:Nat->Prop}{yb mb n0:Nat}{c:Cfg}{s:Ts}{w:World}{q:List Pw}{sb:Nat}{qv ov:Value}{x:Xt}(h:YardIs w S yb mb n0 c s q sb qv ov x)(hx:x.n<=n0+4*s.outs.length)(hI:s.Inv c)(hc:c.Ok)(hi:s.ids.length<1048575000)(h0:n0<1048576000)(hbg:s.begun<1048576000)(hnw:s.now<1048576000):
    Calls prog 172 #[ptr yb] w λe w'=>e=.returned (.tuple #[])/\YardAt w' (Plus S w) yb mb n0 c (s.begin c)/\OnlyT w w' S [201,240]:=by
  obtain⟨tl,zs,hZ⟩:=h.z
  obtain⟨D,⟨es,clock,hm,hF⟩,hD⟩:=hZ.rest.map
  have hml:x.tip<w.heap.size:=(Array.getElem?_eq_some_iff.1 hm).1
  have hyl:=h.box.lt
  have hZ1:=hZ.later (below_new w (.cells #[.pointer (some ⟨yb,0,none⟩)] 130))
  have y7:(w.alloc (.cells #[.pointer (some ⟨yb,0,none⟩)] 130)).cell? ⟨yb,7,none⟩=some (.map (some x.tip)):=hZ1.is.box.cell (i:=7) rfl
  have y3:(w.alloc (.cells #[.pointer (some ⟨yb,0,none⟩)] 130)).cell? ⟨yb,3,none⟩=some (.int .i64 c.window):=hZ1.is.box.cell (i:=3) rfl
  have b0:(w.alloc (.cells #[.pointer (some ⟨yb,0,none⟩)] 130)).cell? ⟨w.heap.size,0,none⟩=some (.pointer (some ⟨yb,0,none⟩)):=(Bx.new w #[.pointer (some ⟨yb,0,none⟩)] 130).cell (i:=0) rfl
  have HSz:Hid ((w.alloc (.cells #[.pointer (some ⟨yb,0,none⟩)] 130)).heap.size=w.heap.size+1):=by
    show _=_
    simp
  have HBm:Hid ((w.alloc (.cells #[.pointer (some ⟨yb,0,none⟩)] 130)).heap[x.tip]? =some (.map es clock)):=(below_new w _).block _ hml|>.trans hm
  have hB1:Hid (Below w.heap.size w (w.alloc (.cells #[.pointer (some ⟨yb,0,none⟩)] 130))):=below_new _ _
  have HZ:Hid (YardZ w S yb mb n0 c s q sb qv ov x tl zs):=hZ
  have HM0:Hid (∀W bm,W.heap[bm]? =some (.map es clock)->FilesMap W bm x.n s.tip):=λW bm hb=>⟨D,⟨es,clock,hb,hF⟩,hD⟩
  have HI:Hid (s.Inv c):=hI
  have HX:Hid (x.n<=n0+4*s.outs.length):=hx
  have HMe:Hid (Bx (w.alloc (.cells #[.pointer (some ⟨yb,0,none⟩)] 130)) w.heap.size 130 #[.pointer (some ⟨yb,0,none⟩)]):=Bx.new _ _ _
  have hfew:zs.length<=8:=by
    have h1:=seg_count hI.sm
    have h2:=hI.tr
    have h3:(zs.map Prod.snd).length=s.segs.length:=by rw[hZ.rest.train.snd]
    rw[List.length_map] at h3
    omega
  clear hZ hZ1 h hF hD hI hx hm
  unfold ptr
  refine(callsIn_wide (n:=3)).1 ?_
  refine callsIn_of_wp_marks func172 rfl trivial ?_ rfl
  simp only[ntmps172,List.size_toArray,List.length_cons,List.length_nil,Nat.reduceAdd,Nat.reduceSub,Array.replicate_succ,Array.replicate_zero,List.push_toArray,List.append_toArray,List.nil_append,List.cons_append]
  gi_upto_region 1 with fail
  generalize w.alloc (.cells #[.pointer (some ⟨yb,0,none⟩)] 130)=w1 at *
  gi_cut [2,3] from 4 (λv2 v3 wz=>∃b2 b3 bm,v2=.pointer (some ⟨b2,0,none⟩)/\v3=.pointer (some ⟨b3,0,none⟩)/\Hid (RoomIs w1 wz es clock c.window b2 b3 bm))
  case first=>
    have ny1:w1.heap.size≠yb:=by have:=HSz.out;omega
    have ny2:w1.heap.size+1≠yb:=by have:=HSz.out;omega
    have ny3:w1.heap.size+1+1≠yb:=by have:=HSz.out;omega
    have nw1:w1.heap.size≠w.heap.size:=by have:=HSz.out;omega
    have nw2:w1.heap.size+1≠w.heap.size:=by have:=HSz.out;omega
    have nw3:w1.heap.size+1+1≠w.heap.size:=by have:=HSz.out;omega
    refine wpIn_plain ?_
    go_region_held_law (λw'=>w'.cell? ⟨w.heap.size,0,none⟩=some (.pointer (some ⟨yb,0,none⟩))/\w'.cell? ⟨yb,7,none⟩=some (.map (some x.tip))/\w'.cell? ⟨yb,3,none⟩=some (.int .i64 c.window)) (simp (maxDischargeDepth:=9) [*,World.cell?_alloc_some]) ((go_at_call 208;refine(setClone2 x.tip es clock _ (by repeat (first|exact HBm.out|refine keep_alloc ?_ _))).mono ?_;rintro e w4 ⟨rfl,rfl⟩))
    all_goals
      go_wp2_with fail
      go_meet
      case rel=>
        obtain⟨ha,hb,hc,hB⟩:=three_new w1 _ _ _
        exact⟨_,_,_,rfl,rfl,⟨hB.os,hB.tape,hB.output,hB.size,hB.block⟩,by omega,by omega,by first|exact ha|exact hb|exact hc,by first|exact ha|exact hb|exact hc,by first|exact ha|exact hb|exact hc,by omega⟩
  case rest=>
    obtain⟨b2,b3,bm,rfl,rfl,HRm⟩:=hcut
    obtain⟨hbw,hb2,hb3,hB2,hB3,hBM,hbm⟩:=HRm.out
    have hbc:Below w.heap.size w wc:=hB1.out.trans (hbw.mono hB1.out.size)
    have hZc:=HZ.out.later hbc
    obtain⟨ta,tcap,htv⟩:=hZc.rest.train.row.form
    have hpl:(zs.map Prod.fst).length=zs.length:=List.length_map _
    have c11:wc.cell? ⟨yb,11,none⟩=some (.slice ta zs.length tcap):=by rw[<-htv];exact hZc.is.box.cell (i:=11) rfl
    have HRow:Hid (Sl wc 210 1 (.slice ta zs.length tcap) zs.length ((zs.map Prod.fst).map ptr)):=by
      have:=hZc.rest.train.row
      rw[htv] at this
      show Sl _ _ _ _ _ _
      rw[List.map_map]
      exact this
    have hB0:Hid (Below wc.heap.size wc (wc.alloc (.cells #[.slice ta zs.length tcap] 195))):=below_new _ _
    have HTV:Hid (x.tv=.slice ta zs.length tcap):=htv
    have hSz:=HSz.out
    have hme:Bx wc w.heap.size 130 #[.pointer (some ⟨yb,0,none⟩)]:=(hbw.block _ HMe.out.lt).trans HMe.out
    have bme:=hme.cell (i:=0) rfl
    have hl2:b2<wc.heap.size:=hB2.lt
    have hl3:b3<wc.heap.size:=hB3.lt
    have hlm:bm<wc.heap.size:=(Array.getElem?_eq_some_iff.1 hBM).1
    have hwc:w1.heap.size<=wc.heap.size:=hbw.size
    have hS0:wc.heap.size+1=(wc.alloc (.cells #[.slice ta zs.length tcap] 195)).heap.size:=(World.size_alloc ..).symm
    have HI0:Hid (BegIs w (wc.alloc (.cells #[.slice ta zs.length tcap] 195)) S yb n0 c s qv sb ov x zs b2 bm (bs0 c s zs)/\Bx (wc.alloc (.cells #[.slice ta zs.length tcap] 195)) b3 3 #[.int .i64 c.window]/\FilesMap (wc.alloc (.cells #[.slice ta zs.length tcap] 195)) bm (x.n+32*0) s.tip):=by
      have hbn:Below w.heap.size w (wc.alloc (.cells #[.slice ta zs.length tcap] 195)):=hbc.trans (hB0.out.mono hbc.size)
      have hZn:=HZ.out.later hbn
      refine⟨⟨OnlyT.below hbn,hZn.is.box,λz hz=>?_,hB2.mk _,?_⟩,hB3.mk _,HM0.out _ _ (keep_alloc hBM _)⟩
      · have:=(hZn.rest.train.segs z hz).kept (λ_ _ _=>rfl) (Plus.old w) (Nat.le_refl _)
        rwa [show (z.1,(bs0 c s zs).sg z.1)=z by show (z.1,sgOf zs z.1)=z;rw[sgOf_mem HZ.out.rest.train.nd hz]]
      · exact hme.mk _
    have HB2:Hid (w.heap.size<=b2/\w.heap.size<=b3/\w.heap.size<=bm):=by
      show _/\_/\_
      omega
    clear HRm hbw hB2 hB3 hBM hbc hZc htv hb2 hb3 hbm hme
    gi_wp2_with (refine⟨trivial,?_⟩;gi_at_call 147;refine(callsIn_wide.2 (lineAll yb ta zs.length tcap wc c11)).mono ?_;rintro e w' ⟨rfl,rfl⟩)
    generalize hwn:wc.alloc (.cells #[.slice ta zs.length tcap] 195)=wn at *
    have hcB:wn.cell? ⟨wc.heap.size,0,none⟩=some (.slice ta zs.length tcap):=by rw[<-hwn];simp
    have HRn:Hid (Sl wn 210 1 (.slice ta zs.length tcap) (zs.map Prod.fst).length ((zs.map Prod.fst).map ptr)):=by
      show Sl _ _ _ _ _ _
      rw[hpl];exact HRow.out.later hB0.out
    clear hwn
    refine wpIn_rangeFunc_ownG (α:=Pt (zs.map Prod.fst)) (n:=3) (F:=Fence.wide) rfl (by decide) (gf:=223) (lb:=#[.pointer (some ⟨wc.heap.size,0,none⟩)]) rfl trivial (enters_of func223 (by kernel_rfl) rfl)
      (sv_stops Fence.wide 2 trivial rfl (by decide) wc.heap.size (.slice ta zs.length tcap) (zs.map Prod.fst) (by rw[hpl];omega) wn (by omega) hcB HRn.out) kpOf_t (kpOf_b λg hg=>HRn.out.lt hg) (Below.refl _ _) (λ_=>rfl)
      (λpre W=>BegInv w W S yb n0 c s qv sb ov x zs b2 b3 bm (pre.map Subtype.val)) (λcd pre W=>BegEnd w W S yb n0 c s qv sb ov x zs b2 bm cd (pre.map Subtype.val)) (BegInv.own (by omega) (by omega) (by omega) (by omega) (by omega)) (λcd=>BegEnd.own (by omega) (by omega) (by omega) cd) ⟨HI0.out.1,HI0.out.2.1,HI0.out.2.2,trivial⟩
      (λy=>{tmps:=#[.pointer (some ⟨yb,0,none⟩),.pointer (some ⟨w.heap.size,0,none⟩),.pointer (some ⟨b2,0,none⟩),.pointer (some ⟨b3,0,none⟩),.pointer (some ⟨y.1,0,none⟩),u5,u6,u7,u8,u9,u10,u11,u12,u13,u14,.pointer (some ⟨yb,0,none⟩),.pointer (some ⟨yb,0,none⟩),.pointer (some ⟨yb,11,none⟩),.func (.func 223) #[] #[.pointer (some ⟨wc.heap.size,0,none⟩)],.pointer (some ⟨y.1,0,none⟩),u20,u21,u22,u23,u24,u25,u26,u27,u28,u29,u30,u31,u32,u33,u34,u35,u36,u37,u38,u39,u40,u41,u42,u43,u44,u45,u46,u47,u48,u49,u50,u51,u52,u53,u54,u55,u56,u57,u58,u59,u60,u61,u62,u63,u64,u65,u66,u67,u68,u69,u70,u71,u72,u73,u74,u75,u76,u77],defers:=[]}) ?assign ?body ?done ?stop
    case assign=>
      intro l y W K hK
      unfold ptr
      gi_wp2
      exact hK
    case body=>
      rintro l pre ⟨p,hp⟩ W ⟨hB,hR3,hM,hG⟩ hpre
      obtain⟨⟨p',y⟩,hz,rfl⟩:=List.mem_map.1 hp
      have HG:Hid ((bs0 c s zs).goes c s.now (pre.map Subtype.val)):=hG
      have hsame:=Bs.all_same c s.now (pre.map Subtype.val) (bs0 c s zs) p'
      rw[show (bs0 c s zs).sg p'=y from sgOf_mem HZ.out.rest.train.nd hz] at hsame
      have HSm:Hid (SmOk c s.begun s.now y):=HI.out.sm y (by rw[<-HZ.out.rest.train.snd];exact List.mem_map_of_mem hz)
      rw[List.length_map] at hM
      generalize ht:(bs0 c s zs).all c s.now (pre.map Subtype.val)=t at hB hR3 hM hsame
      have Ht:Hid ((bs0 c s zs).all c s.now (pre.map Subtype.val)=t):=ht
      obtain⟨cv,jv,cl,hseg⟩:=hB.segs (p',y) hz
      simp only at hseg
      have hb3:=hR3.cell (i:=0) rfl
      have hb2:=hB.box.cell (i:=0) rfl
      have hbme:=hB.me.cell (i:=0) rfl
      have HB:Hid (BegIs w W S yb n0 c s qv sb ov x zs b2 bm t):=hB
      have HR3:Hid (Bx W b3 3 #[.int .i64 t.r]):=hR3
      have HM:Hid (FilesMap W bm (x.n+32*pre.length) t.g):=hM
      have HSeg:Hid (SegIs W (Plus S w) (s.top n0) p' (t.sg p') cv jv cl):=hseg
      have HSame:Hid ((t.sg p').l=y.l/\(t.sg p').fails=y.fails/\(t.sg p').by_=y.by_):=hsame
      clear hB hR3 hM hseg hG ht hsame
      by_cases hr:t.r=0
      · have q1:((t.r:Int)==0)=true:=by simp[hr]
        have HN:Hid (∀n,BegEnd w (W.drewN n) S yb n0 c s qv sb ov x zs b2 bm .ret ((pre++[(⟨p',hp⟩:Pt (zs.map Prod.fst))]).map Subtype.val)):=λn=>by
          refine⟨rfl,pre.map Subtype.val,p',by simp,?_,HG.out,?_⟩
          · rw[Ht.out];exact HB.out.drewN n
          · rw[Ht.out];exact λh=>h.1 hr
        rw[hr] at hb3
        refine wpIn_block (wpIn_seq (wpIn_seq (wpIn_round_quiet rfl (by kernel_rfl) rfl ?_)))
        repeat (first|go_big_quiet_step (fail)|quiet_step (fail))
        refine wpQuiet_nil ?_
        rintro _ ⟨nq,rfl⟩
        show Code.wpIn _ _ _ _ _ _ _
        gi_wp2
        exact⟨keeps_drew _ _,HN.out nq⟩
      · have hne:((t.r:Int)==0)=false:=by simp;omega
        have HLen:Hid (y.l.length<=8):=by
          show _<=_
          have h1:=HI.out.tr
          have h2:y.l.length<=trainLen s.segs:=seg_len (by rw[<-HZ.out.rest.train.snd];exact List.mem_map_of_mem hz)
          omega
        have HOu:Hid (s.outs.length<=s.ids.length):=by
          show _<=_
          have:=HI.out.cnt
          omega
        obtain⟨ca,ccap,rfl⟩:=HSeg.out.chs.row.form
        have c0:W.cell? ⟨p',0,none⟩=some (.slice ca cl.length ccap):=HSeg.out.box.cell (i:=0) rfl
        have hsd:SegIs W.drew (Plus S w) (s.top n0) p' (t.sg p') (.slice ca cl.length ccap) jv cl:=⟨HSeg.out.box,HSeg.out.chs.keptT (KeepT.drewN W 1) (λ_ h=>h) (by decide) (by decide),HSeg.out.job.keptT (KeepT.drewN W 1) (λ_ h=>h) (Nat.le_refl _) (by decide) (by decide),HSeg.out.own⟩
        have hA:=segApply (Plus S w) (s.top n0) p' bm (x.n+32*pre.length) (t.sg p') _ jv cl t.g W.drew hsd (HM.out.same rfl) (by rw[HSame.out.1];exact λy hy=>(HSm.out.eds y hy).2) (by rw[HSame.out.1];exact HLen.out) (by have:=HX.out;have:=HOu.out;omega)
        unfold ptr at hA
        refine wpIn_block (wpIn_seq (wpIn_seq (wpIn_round_held (S:=λw'=>w'.cell? ⟨b3,0,none⟩=some (.int .i64 t.r)/\w'.cell? ⟨b2,0,none⟩=some (.map (some bm))/\w'.cell? ⟨p',0,none⟩=some (.slice ca cl.length ccap)/\w'.cell? ⟨w.heap.size,0,none⟩=some (.pointer (some ⟨yb,0,none⟩))) rfl rfl (λ⟨_,_,h⟩=>h) ⟨hb3,hb2,c0,hbme⟩ (λhHeld=>?_))))
        refine tk 0 ?_
        refine tk 1 ?_
        refine tk 2 ?_
        refine tk 3 ?_
        refine tk 4 ?_
        refine tk 6 ?_
        refine tk 7 ?_
        refine tk 8 ?_
        refine tk 9 ?_
        refine tk 10 ?_
        refine wpAnyH_ready (rs:=[5]) (by kernel_rfl) (by simp) ?_
        refine AllReadyH.cons rfl (λK hK=>?_) AllReadyH.nil
        go_simp
        go_wp2_with (go_at_call 209;refine hA.mono ?_;rintro e w5 ⟨rfl,hM5,hg5⟩)
        have k5:∀k,k<W.heap.size->k≠bm->w5.heap[k]? =W.heap[k]? :=λk hk hn=>hg5.block k hk (λe=>hn (by simpa using e))
        have B3:Bx w5 b3 3 #[.int .i64 t.r]:=(k5 _ HR3.out.lt (HM.out.ne_box HR3.out).symm).trans HR3.out
        have B2:Bx w5 b2 132 #[.map (some bm)]:=(k5 _ HB.out.box.lt (HM.out.ne_box HB.out.box).symm).trans HB.out.box
        have BP:Bx w5 p' 240 (segCells (.slice ca cl.length ccap) (t.sg p').fails (t.sg p').by_ jv):=(k5 _ HSeg.out.box.lt (HM.out.ne_box HSeg.out.box).symm).trans HSeg.out.box
        have BM:Bx w5 w.heap.size 130 #[.pointer (some ⟨yb,0,none⟩)]:=(k5 _ HB.out.me.lt (HM.out.ne_box HB.out.me).symm).trans HB.out.me
        have BY:Bx w5 yb 201 (yardCells c x t.b s.now qv sb s.outs.length ov):=(k5 _ HB.out.yard.lt (HM.out.ne_box HB.out.yard).symm).trans HB.out.yard
        refine hK.out _ _ ⟨B3.cell (i:=0) rfl,B2.cell (i:=0) rfl,BP.cell (i:=0) rfl,BM.cell (i:=0) rfl⟩ (λhHeld=>?_)
        clear hK K
        have hcl:cl.length=(t.sg p').l.length:=chs_len HSeg.out.chs
        have HO5:Hid (Only W w5 (λk=>k=bm)):=⟨hg5.os,hg5.tape,hg5.output,hg5.size,λk hk hn=>k5 k hk hn⟩
        have HM5:Hid ((makes t.g (t.sg p').l).2=(t.sg p').l.length->FilesMap w5 bm (x.n+32*pre.length+4*(t.sg p').l.length) (makes t.g (t.sg p').l).1):=hM5
        have HB5:Hid (Bx w5 b3 3 #[.int .i64 t.r]/\Bx w5 b2 132 #[.map (some bm)]/\Bx w5 p' 240 (segCells (.slice ca cl.length ccap) (t.sg p').fails (t.sg p').by_ jv)/\Bx w5 w.heap.size 130 #[.pointer (some ⟨yb,0,none⟩)]/\Bx w5 yb 201 (yardCells c x t.b s.now qv sb s.outs.length ov)):=⟨B3,B2,BP,BM,BY⟩
        have hfail:=yFailed yb p' (t.sg p').fails c.retries _ _ w5 BY rfl BP rfl (decide (c.retries<(t.sg p').fails)) rfl
        have HEnd:Hid (¬t.go c p'->∀W',Only W W' (λk=>k=bm)->KeepsFrom wn.heap.size W W'/\BegEnd w W' S yb n0 c s qv sb ov x zs b2 bm .ret ((pre++[(⟨p',hp⟩:Pt (zs.map Prod.fst))]).map Subtype.val)):=λhn W' hO=>by
          refine⟨keeps_below hO λk e=>by omega,rfl,pre.map Subtype.val,p',by simp,?_,HG.out,?_⟩
          · rw[Ht.out];exact HB.out.bmOnly HM.out HB2.out.2.2 hO
          · rw[Ht.out];exact hn
        have hmk:=makes_le (t.sg p').l t.g
        unfold ptr at hfail
        clear hM5 hg5 k5 B3 B2 BP BM BY hA hsd
        generalize hk0:(makes t.g (t.sg p').l).2=k0 at *
        have HK0:Hid ((makes t.g (t.sg p').l).2=k0):=hk0
        have HCl:Hid (cl.length=(t.sg p').l.length):=hcl
        clear hk0 hcl
        by_cases hlt:k0<(t.sg p').l.length
        · have qd:decide ((k0:Int)<(cl.length:Int))=true:=by rw[decide_eq_true_iff];have:=HCl.out;omega
          have ql:(k0:Int)<(cl.length:Int):=by have:=HCl.out;omega
          refine tk 11 ?_
          refine tk 12 ?_
          refine tk 13 ?_
          refine wpAnyH_take (i:=14) (v:=undef) rfl (by kernel_rfl) (by kernel_rfl) (by kernel_rfl) (λ_ _ _ h=>h) (Or.inr ⟨by rfl,rfl⟩) (by assumption) ?_
          try simp only[Act.put,List.getElem_toArray,List.getElem_cons_zero,List.getElem_cons_succ,List.setIfInBounds_toArray,List.set_cons_zero,List.set_cons_succ]
          refine wpAnyH_take (i:=15) (v:=undef) rfl (by kernel_rfl) (by kernel_rfl) (by kernel_rfl) (λ_ _ _ h=>h) (Or.inr ⟨by rfl,rfl⟩) (by assumption) ?_
          try simp only[Act.put,List.getElem_toArray,List.getElem_cons_zero,List.getElem_cons_succ,List.setIfInBounds_toArray,List.set_cons_zero,List.set_cons_succ]
          refine wpAnyH_take (i:=16) (v:=undef) rfl (by kernel_rfl) (by kernel_rfl) (by kernel_rfl) (λ_ _ _ h=>h) (Or.inr ⟨by rfl,rfl⟩) (by assumption) ?_
          try simp only[Act.put,List.getElem_toArray,List.getElem_cons_zero,List.getElem_cons_succ,List.setIfInBounds_toArray,List.set_cons_zero,List.set_cons_succ]
          refine tk 17 ?_
          refine wpAnyH_done (by kernel_rfl) ?_ _
          show Code.wpIn _ _ _ _ _ _ _
          gi_wp2
          exact HEnd.out (λh=>h.2.1 (by rw[HK0.out];exact hlt)) w5 HO5.out
        · have qd:decide ((k0:Int)<(cl.length:Int))=false:=by rw[decide_eq_false_iff_not];have:=HCl.out;omega
          have ql:¬(k0:Int)<(cl.length:Int):=by have:=HCl.out;omega
          refine tk 11 ?_
          refine tk 12 ?_
          refine tk 13 ?_
          refine tk 14 ?_
          refine tk 15 ?_
          by_cases hfa:c.retries<(t.sg p').fails
          · rw[show decide (c.retries<(t.sg p').fails)=true by simpa using hfa] at hfail
            refine wpAnyH_ready (rs:=[16]) (by kernel_rfl) (by simp) ?_
            refine AllReadyH.cons rfl (λK hK=>?_) AllReadyH.nil
            go_simp
            go_wp2_with (go_at_call 213;refine hfail.mono ?_;rintro e w6 ⟨rfl,nq,rfl⟩)
            refine hK.out _ _ hHeld (λhHeld=>?_)
            clear hK K
            refine tk 17 ?_
            refine wpAnyH_done (by kernel_rfl) ?_ _
            show Code.wpIn _ _ _ _ _ _ _
            gi_wp2
            exact HEnd.out (λh=>h.2.2 hfa) _ (Only.trans HO5.out (⟨rfl,rfl,rfl,Nat.le_refl _,λ_ _ _=>rfl⟩:Only w5 (w5.drewN nq) (λk=>k=bm)) λ_ h=>.inl h)
          · rw[show decide (c.retries<(t.sg p').fails)=false by simpa using hfa] at hfail
            refine wpAnyH_ready (rs:=[16]) (by kernel_rfl) (by simp) ?_
            refine AllReadyH.cons rfl (λK hK=>?_) AllReadyH.nil
            go_simp
            go_wp2_with (go_at_call 213;refine hfail.mono ?_;rintro e w6 ⟨rfl,nq,rfl⟩)
            refine hK.out _ _ hHeld (λhHeld=>?_)
            clear hK K
            refine tk 17 ?_
            refine wpAnyH_done (by kernel_rfl) ?_ _
            show Code.wpIn _ _ _ _ _ _ _
            have hr1:1<=t.r:=by omega
            have hr4:t.r<=4:=by
              have h1:=Bs.all_r c s.now (pre.map Subtype.val) (bs0 c s zs)
              rw[Ht.out] at h1
              exact Nat.le_trans h1 hc.2.2.2.1.2
            have hgo:t.go c p':=⟨hr,by rw[HK0.out];exact hlt,hfa⟩
            have HFin:Hid (∀W',Only W W' (λk=>k=bm\/k=b3\/k=yb\/k=p')->Bx W' b3 3 #[.int .i64 ((t.r-1:Nat):Int)]->FilesMap W' bm (x.n+32*pre.length+4*(t.sg p').l.length) (makes t.g (t.sg p').l).1->Bx W' yb 201 (yardCells c x (t.step c s.now p').b s.now qv sb s.outs.length ov)->SegAt W' (Plus S w) (s.top n0) (p',(t.step c s.now p').sg p')->KeepsFrom wn.heap.size W W'/\KpOf (.slice ta zs.length tcap) W W'/\BegInv w W' S yb n0 c s qv sb ov x zs b2 b3 bm ((pre++[(⟨p',hp⟩:Pt (zs.map Prod.fst))]).map Subtype.val)):=λW' hO h3 hM' hy hs=>by
              obtain⟨_,_,_,hs0⟩:=HZ.out.rest.train.segs (p',y) hz
              have hpw:=hs0.box.lt
              have hrow:=HB.out.only.sl HZ.out.rest.train.row (by decide)
              rw[HTV.out] at hrow
              have e1:(pre++[(⟨p',hp⟩:Pt (zs.map Prod.fst))]).map Subtype.val=pre.map Subtype.val++[p']:=by simp
              have hl8:(t.sg p').l.length<=8:=by rw[HSame.out.1];exact HLen.out
              refine⟨keeps_below hO λk e=>by simp only at hpw;omega,λg hg=>hO.block g (hrow.lt hg) λe=>?_,?_⟩
              · have Tg:=hrow.ty hg
                rcases e with rfl|rfl|rfl|rfl
                · exact absurd (Tg.one HM.out.ty) (by decide)
                · exact absurd (Tg.one HR3.out.ty) (by decide)
                · exact absurd (Tg.one HB.out.yard.ty) (by decide)
                · exact absurd (Tg.one HSeg.out.box.ty) (by decide)
              · rw[e1]
                unfold BegInv
                rw[Bs.all_snoc,Ht.out]
                refine⟨HB.out.step hz HZ.out.is.fy hs0.own hyl hpw hs0.box.ty HZ.out.is.box.ty HR3.out HM.out HB2.out.2.1 HB2.out.2.2 hO hy hs λk hk=>by simp[Bs.step,hk],h3,?_,Bs.goes_snoc HG.out (by rw[Ht.out];exact hgo)⟩
                have:x.n+32*pre.length+4*(t.sg p').l.length<=x.n+32*(pre.map Subtype.val++[p']).length:=by simp;omega
                exact hM'.more this
            have hk1:k0=(t.sg p').l.length:=by omega
            have hM6:=HM5.out hk1
            obtain⟨B3,B2,BP,BM,BY⟩:=HB5.out
            have f3:(w5.drewN nq).frozen? ⟨b3,0,none⟩=false:=B3.fr 0
            have g3:(w5.drewN nq).cell? ⟨b3,0,none⟩=some (.int .i64 t.r):=B3.cell (i:=0) rfl
            have n2:b3≠b2:=λe=>by subst e;exact absurd (B3.ty.one B2.ty) (by decide)
            have np:b3≠p':=λe=>by subst e;exact absurd (B3.ty.one BP.ty) (by decide)
            have nm:b3≠w.heap.size:=λe=>by rw[e] at B3;exact absurd (B3.ty.one BM.ty) (by decide)
            have ny:b3≠yb:=λe=>by subst e;exact absurd (B3.ty.one BY.ty) (by decide)
            have nb:b3≠bm:=λe=>by subst e;exact absurd (B3.ty.one hM6.ty) (by decide)
            have HCast:Hid ((t.r:Int)-1=((t.r-1:Nat):Int)):=by
              show _=_
              omega
            have hO7:Hid (Only W ((w5.drewN nq).setCell ⟨b3,0,none⟩ (.int .i64 ((t.r-1:Nat):Int))) (λk=>k=bm\/k=b3)):=Only.set (Only.trans (HO5.out.mono λ_ h=>.inl h) (⟨rfl,rfl,rfl,Nat.le_refl _,λ_ _ _=>rfl⟩:Only w5 (w5.drewN nq) (λk=>k=bm\/k=b3)) λ_ h=>.inl h) (.inl (.inr rfl))
            have HB7:Hid (Bx ((w5.drewN nq).setCell ⟨b3,0,none⟩ (.int .i64 ((t.r-1:Nat):Int))) b3 3 #[.int .i64 ((t.r-1:Nat):Int)]/\Bx ((w5.drewN nq).setCell ⟨b3,0,none⟩ (.int .i64 ((t.r-1:Nat):Int))) b2 132 #[.map (some bm)]/\Bx ((w5.drewN nq).setCell ⟨b3,0,none⟩ (.int .i64 ((t.r-1:Nat):Int))) p' 240 (segCells (.slice ca cl.length ccap) (t.sg p').fails (t.sg p').by_ jv)/\Bx ((w5.drewN nq).setCell ⟨b3,0,none⟩ (.int .i64 ((t.r-1:Nat):Int))) w.heap.size 130 #[.pointer (some ⟨yb,0,none⟩)]/\Bx ((w5.drewN nq).setCell ⟨b3,0,none⟩ (.int .i64 ((t.r-1:Nat):Int))) yb 201 (yardCells c x t.b s.now qv sb s.outs.length ov)/\FilesMap ((w5.drewN nq).setCell ⟨b3,0,none⟩ (.int .i64 ((t.r-1:Nat):Int))) bm (x.n+32*pre.length+4*(t.sg p').l.length) (makes t.g (t.sg p').l).1):=
              ⟨Bx.set (w:=w5.drewN nq) B3 0 _,Bx.other (w:=w5.drewN nq) B2 n2 0 _,Bx.other (w:=w5.drewN nq) BP np 0 _,Bx.other (w:=w5.drewN nq) BM nm 0 _,Bx.other (w:=w5.drewN nq) BY ny 0 _,FilesMap.same (w:=w5.drewN nq) hM6 ((grown_set (w5.drewN nq) b3 0 _).block bm hM6.lt (λe=>nb (by simpa using e.symm)))⟩
            clear B3 B2 BP BM BY hM6 hHeld HB5 HM5 HEnd hfail
            gi_upto_region 6 with fail
            rw[HCast.out]
            generalize (w5.drewN nq).setCell ⟨b3,0,none⟩ (.int .i64 ((t.r-1:Nat):Int))=w7 at *
            obtain⟨B3,B2,BP,BM,BY,hM7⟩:=HB7.out
            have hpass:=segPassed p' (t.sg p').by_ _ w7 BP rfl (decide ((t.sg p').by_≠0)) rfl
            have p3:=BP.c 3 jv
            have HNo:Hid (¬((t.sg p').by_=0/\(t.sg p').job.isNone=true)->KeepsFrom wn.heap.size W w7/\KpOf (.slice ta zs.length tcap) W w7/\BegInv w w7 S yb n0 c s qv sb ov x zs b2 b3 bm ((pre++[(⟨p',hp⟩:Pt (zs.map Prod.fst))]).map Subtype.val)):=λhno=>by
              have e1:(t.step c s.now p').b=t.b:=if_neg hno
              have e2:(t.step c s.now p').sg p'=t.sg p':=by
                show (if p'=p' then t.put c s.now p' else t.sg p')=_
                rw[if_pos rfl];exact if_neg hno
              refine HFin.out w7 (hO7.out.mono λk hk=>by rcases hk with h|h;exact .inl h;exact .inr (.inl h)) HB7.out.1 HB7.out.2.2.2.2.2 (by rw[e1];exact HB7.out.2.2.2.2.1) ?_
              rw[e2]
              have K:KeepT W w7 [tMap,3]:=⟨hO7.out.size,λk ty hk hn=>hO7.out.block k hk.lt λe=>by
                rcases e with rfl|rfl
                · exact hn (by rw[hk.one HM.out.ty];simp)
                · exact hn (by rw[hk.one HR3.out.ty];simp)⟩
              exact⟨_,_,_,HB7.out.2.2.1,HSeg.out.chs.keptT K (λ_ h=>h) (by decide) (by decide),HSeg.out.job.keptT K (λ_ h=>h) (Nat.le_refl _) (by decide) (by decide),HSeg.out.own⟩
            unfold ptr at hpass
            clear B3 B2 BP BM BY hM7
            by_cases hby:(t.sg p').by_=0
            · rw[show decide ((t.sg p').by_≠0)=false by simpa using hby] at hpass
              cases ej:(t.sg p').job with
              |some j=>
                obtain⟨jb,jt,jfl,rfl,-,-,-,-,-,-⟩:JobIs W (Plus S w) (s.top n0) jv (some j):=ej▸HSeg.out.job
                have hfin:=HNo.out (λh=>by rw[ej] at h;cases h.2)
                have HF:Hid (KeepsFrom wn.heap.size W w7/\KpOf (.slice ta zs.length tcap) W w7/\BegInv w w7 S yb n0 c s qv sb ov x zs b2 b3 bm ((pre++[(⟨p',hp⟩:Pt (zs.map Prod.fst))]).map Subtype.val)):=hfin
                clear hfin ej
                unfold ptr at p3
                gi_wp2_with (refine⟨trivial,?_⟩;gi_at_call 189;refine(calls_round _ _ hpass).mono ?_;rintro e w8 ⟨rfl,rfl⟩)
                exact HF.out
              |none=>
                have ejv:jv=.pointer none:=by have:=HSeg.out.job;rw[ej] at this;exact this
                subst ejv
                have hb8:pre.length<8:=by rw[hpl] at hpre;omega
                have hbb:t.b<=s.begun+pre.length:=by
                  have h1:=Bs.all_b c s.now (pre.map Subtype.val) (bs0 c s zs)
                  rw[Ht.out,List.length_map] at h1
                  exact h1
                obtain⟨B3,B2,BP,BM,BY,hM7⟩:=HB7.out
                have y12:w7.cell? ⟨yb,12,none⟩=some (.int .i64 t.b):=BY.cell (i:=12) rfl
                have fy:=BY.fr 12
                have m0:=BM.cell (i:=0) rfl
                have n2:yb≠b2:=λe=>by subst e;exact absurd (BY.ty.one B2.ty) (by decide)
                have np:yb≠p':=λe=>by subst e;exact absurd (BY.ty.one BP.ty) (by decide)
                have nm:yb≠w.heap.size:=λe=>by rw[e] at BY;exact absurd (BY.ty.one BM.ty) (by decide)
                have nb:yb≠bm:=λe=>by subst e;exact absurd (BY.ty.one hM7.ty) (by decide)
                have ny3:yb≠b3:=λe=>by subst e;exact absurd (BY.ty.one B3.ty) (by decide)
                have HCb:Hid ((t.b:Int)+1=((t.b+1:Nat):Int)):=by
                  show _=_
                  omega
                have HB8:Hid (Bx (w7.setCell ⟨yb,12,none⟩ (.int .i64 ((t.b+1:Nat):Int))) b3 3 #[.int .i64 ((t.r-1:Nat):Int)]/\Bx (w7.setCell ⟨yb,12,none⟩ (.int .i64 ((t.b+1:Nat):Int))) b2 132 #[.map (some bm)]/\Bx (w7.setCell ⟨yb,12,none⟩ (.int .i64 ((t.b+1:Nat):Int))) p' 240 (segCells (.slice ca cl.length ccap) (t.sg p').fails (t.sg p').by_ (.pointer none))/\Bx (w7.setCell ⟨yb,12,none⟩ (.int .i64 ((t.b+1:Nat):Int))) w.heap.size 130 #[.pointer (some ⟨yb,0,none⟩)]/\Bx (w7.setCell ⟨yb,12,none⟩ (.int .i64 ((t.b+1:Nat):Int))) yb 201 (yardCells c x (t.b+1) s.now qv sb s.outs.length ov)/\FilesMap (w7.setCell ⟨yb,12,none⟩ (.int .i64 ((t.b+1:Nat):Int))) bm (x.n+32*pre.length+4*(t.sg p').l.length) (makes t.g (t.sg p').l).1/\Only W (w7.setCell ⟨yb,12,none⟩ (.int .i64 ((t.b+1:Nat):Int))) (λk=>k=bm\/k=b3\/k=yb\/k=p')):=
                  ⟨Bx.other B3 ny3 12 _,Bx.other B2 n2 12 _,Bx.other BP np 12 _,Bx.other BM nm 12 _,Bx.set BY 12 _,hM7.same ((grown_set w7 yb 12 _).block bm hM7.lt (λe=>nb (by simpa using e.symm))),Only.set (hO7.out.mono λk hk=>by rcases hk with h|h;exact .inl h;exact .inr (.inl h)) (.inl (.inr (.inr (.inl rfl))))⟩
                clear B3 B2 BP BM BY hM7
                gi_upto_region 8 with (refine⟨trivial,?_⟩;gi_at_call 189;refine(calls_round _ _ hpass).mono ?_;rintro e w9 ⟨rfl,rfl⟩)
                rw[HCb.out]
                generalize hw8:w9.setCell ⟨yb,12,none⟩ (.int .i64 ((t.b+1:Nat):Int))=w8 at HB8 ⊢
                clear hw8
                obtain⟨B3,B2,BP,BM,BY,hM8,hO8⟩:=HB8.out
                have z1:w8.cell? ⟨yb,12,none⟩=some (.int .i64 ((t.b+1:Nat):Int)):=BY.cell (i:=12) rfl
                have z2:w8.cell? ⟨yb,13,none⟩=some (.int .i64 s.now):=BY.cell (i:=13) rfl
                have z3:w8.cell? ⟨yb,5,none⟩=some (.int .i64 c.deadline):=BY.cell (i:=5) rfl
                have z4:w8.cell? ⟨w.heap.size,0,none⟩=some (.pointer (some ⟨yb,0,none⟩)):=BM.cell (i:=0) rfl
                have z5:w8.cell? ⟨b2,0,none⟩=some (.map (some bm)):=B2.cell (i:=0) rfl
                obtain⟨D8,hown8,hD8⟩:=hM8
                have hl8:(t.sg p').l.length<=8:=by rw[HSame.out.1];exact HLen.out
                have hLs:=list_any bm _ D8 _ w8.drew hown8 hD8 (by have:=HX.out;have:=HOu.out;omega)
                have hdl:=hc.2.2.2.2.2.1.2
                have hwr:IntKind.i64.wrap ((s.now:Int)+(c.deadline:Int))=(s.now:Int)+(c.deadline:Int):=wrap_i64 (by omega) (by omega)
                have HCn:Hid ((s.now:Int)+(c.deadline:Int)=((s.now+c.deadline:Nat):Int)):=by
                  show _=_
                  omega
                clear hpass p3 y12 fy m0 hown8 hD8 B3 B2 BP BM BY hO8
                refine wpIn_ends (λW'=>KeepsFrom wn.heap.size W W'/\KpOf (.slice ta zs.length tcap) W W'/\BegInv w W' S yb n0 c s qv sb ov x zs b2 b3 bm ((pre++[(⟨p',hp⟩:Pt (zs.map Prod.fst))]).map Subtype.val)) (λ_ _ h=>h) ?_
                refine wpIn_round_held (S:=λw'=>w'.cell? ⟨w.heap.size,0,none⟩=some (.pointer (some ⟨yb,0,none⟩))/\w'.cell? ⟨yb,12,none⟩=some (.int .i64 ((t.b+1:Nat):Int))/\w'.cell? ⟨yb,13,none⟩=some (.int .i64 s.now)/\w'.cell? ⟨yb,5,none⟩=some (.int .i64 c.deadline)/\w'.cell? ⟨b2,0,none⟩=some (.map (some bm))) rfl rfl (λ⟨_,_,h⟩=>by cases h.1) ⟨z4,z1,z2,z3,z5⟩ (λhHeld=>?_)
                refine tk 0 ?_
                refine tk 1 ?_
                refine tk 2 ?_
                refine tk 3 ?_
                refine tk 4 ?_
                refine tk 5 ?_
                refine tk 6 ?_
                refine tk 7 ?_
                refine tk 8 ?_
                refine tk 9 ?_
                refine tk 10 ?_
                refine tk 11 ?_
                refine tk 12 ?_
                refine tk 13 ?_
                refine tk 14 ?_
                refine tk 15 ?_
                refine wpAnyH_ready (rs:=[16]) (by kernel_rfl) (by simp) ?_
                refine AllReadyH.cons rfl (λK hK=>?_) AllReadyH.nil
                go_simp
                go_wp2_with (go_at_call 144;refine hLs.mono ?_;rintro e w10 ⟨⟨fl,fb,fcap,rfl,hTold,hfl,hrow10⟩,hb10⟩)
                obtain⟨B3,B2,BP,BM,BY,hM8,hO8⟩:=HB8.out
                have k10:∀k,k<w8.heap.size->w10.heap[k]? =w8.heap[k]? :=λk hk=>hb10.block k hk
                have C3:Bx w10 b3 3 #[.int .i64 ((t.r-1:Nat):Int)]:=(k10 _ B3.lt).trans B3
                have C2:Bx w10 b2 132 #[.map (some bm)]:=(k10 _ B2.lt).trans B2
                have CP:Bx w10 p' 240 (segCells (.slice ca cl.length ccap) (t.sg p').fails (t.sg p').by_ (.pointer none)):=(k10 _ BP.lt).trans BP
                have CM:Bx w10 w.heap.size 130 #[.pointer (some ⟨yb,0,none⟩)]:=(k10 _ BM.lt).trans BM
                have CY:Bx w10 yb 201 (yardCells c x (t.b+1) s.now qv sb s.outs.length ov):=(k10 _ BY.lt).trans BY
                have hM10:FilesMap w10 bm (x.n+32*pre.length+4*(t.sg p').l.length) (makes t.g (t.sg p').l).1:=hM8.same (k10 _ hM8.lt)
                have O10:Only W w10 (λk=>k=bm\/k=b3\/k=yb\/k=p'):=Only.trans hO8 (Only.of_below (w:=w8) ⟨hb10.os,hb10.tape,hb10.output,hb10.size,k10⟩) λ_ h=>.inl h
                have hS10:Sl w10 80 2 (.slice (some ⟨fb,0,none⟩) fl.length fcap) fl.length (fl.flatMap cF):=Sl.of_row hrow10
                have hfb:w8.heap.size<=fb:=by
                  rcases hrow10.2 with ⟨h,_⟩|⟨g',_,_,h,hg',_⟩
                  · cases h
                  · obtain⟨h1,_,_⟩:=Value.slice.inj h
                    cases h1
                    exact hg'
                have ho1:∀o,(w10.alloc o).cell? ⟨p',3,none⟩=some (.pointer none):=λo=>(CP.mk o).cell (i:=3) rfl
                have ho2:∀o,(w10.alloc o).frozen? ⟨p',3,none⟩=false:=λo=>(CP.mk o).fr 3
                have HC10:Hid (Bx w10 b3 3 #[.int .i64 ((t.r-1:Nat):Int)]/\Bx w10 b2 132 #[.map (some bm)]/\Bx w10 p' 240 (segCells (.slice ca cl.length ccap) (t.sg p').fails (t.sg p').by_ (.pointer none))/\Bx w10 w.heap.size 130 #[.pointer (some ⟨yb,0,none⟩)]/\Bx w10 yb 201 (yardCells c x (t.b+1) s.now qv sb s.outs.length ov)/\FilesMap w10 bm (x.n+32*pre.length+4*(t.sg p').l.length) (makes t.g (t.sg p').l).1/\Only W w10 (λk=>k=bm\/k=b3\/k=yb\/k=p')):=⟨C3,C2,CP,CM,CY,hM10,O10⟩
                have HS10:Hid (Sl w10 80 2 (.slice (some ⟨fb,0,none⟩) fl.length fcap) fl.length (fl.flatMap cF)/\w8.heap.size<=fb/\Told fl (makes t.g (t.sg p').l).1/\fl.length<=x.n+32*pre.length+4*(t.sg p').l.length):=⟨hS10,hfb,hTold,hfl⟩
                refine hK.out _ _ ⟨CM.cell (i:=0) rfl,CY.cell (i:=12) rfl,CY.cell (i:=13) rfl,CY.cell (i:=5) rfl,C2.cell (i:=0) rfl⟩ (λhHeld=>?_)
                clear hK K C3 C2 CP CM CY hM10 O10 hS10 hfb hTold hfl hrow10 hb10 k10 hLs
                refine tk 17 ?_
                refine wpAnyH_ready (rs:=[18]) (by kernel_rfl) (by simp) ?_
                refine AllReadyH.cons rfl (λK hK=>?_) AllReadyH.nil
                go_simp
                have HA10:Hid (Bx (w10.alloc (.cells #[.int .i64 ((t.b:Int)+1),.int .i64 ((s.now:Int)+(c.deadline:Int)),.slice (some ⟨fb,0,none⟩) fl.length fcap] 242)) b3 3 #[.int .i64 ((t.r-1:Nat):Int)]/\Bx (w10.alloc (.cells #[.int .i64 ((t.b:Int)+1),.int .i64 ((s.now:Int)+(c.deadline:Int)),.slice (some ⟨fb,0,none⟩) fl.length fcap] 242)) b2 132 #[.map (some bm)]/\Bx (w10.alloc (.cells #[.int .i64 ((t.b:Int)+1),.int .i64 ((s.now:Int)+(c.deadline:Int)),.slice (some ⟨fb,0,none⟩) fl.length fcap] 242)) p' 240 (segCells (.slice ca cl.length ccap) (t.sg p').fails (t.sg p').by_ (.pointer none))/\Bx (w10.alloc (.cells #[.int .i64 ((t.b:Int)+1),.int .i64 ((s.now:Int)+(c.deadline:Int)),.slice (some ⟨fb,0,none⟩) fl.length fcap] 242)) w.heap.size 130 #[.pointer (some ⟨yb,0,none⟩)]/\Bx (w10.alloc (.cells #[.int .i64 ((t.b:Int)+1),.int .i64 ((s.now:Int)+(c.deadline:Int)),.slice (some ⟨fb,0,none⟩) fl.length fcap] 242)) yb 201 (yardCells c x (t.b+1) s.now qv sb s.outs.length ov)):=⟨HC10.out.1.mk _,HC10.out.2.1.mk _,HC10.out.2.2.1.mk _,HC10.out.2.2.2.1.mk _,HC10.out.2.2.2.2.1.mk _⟩
                refine hK.out _ _ ⟨HA10.out.2.2.2.1.cell (i:=0) rfl,HA10.out.2.2.2.2.cell (i:=12) rfl,HA10.out.2.2.2.2.cell (i:=13) rfl,HA10.out.2.2.2.2.cell (i:=5) rfl,HA10.out.2.1.cell (i:=0) rfl⟩ (λhHeld=>?_)
                clear hK K
                refine tk 19 ?_
                refine tk 20 ?_
                refine wpAnyH_ready (rs:=[21]) (by kernel_rfl) (by simp) ?_
                refine AllReadyH.cons rfl (λK hK=>?_) AllReadyH.nil
                go_simp
                have HF10:Hid (Bx ((w10.alloc (.cells #[.int .i64 ((t.b:Int)+1),.int .i64 ((s.now:Int)+(c.deadline:Int)),.slice (some ⟨fb,0,none⟩) fl.length fcap] 242)).setCell ⟨p',3,none⟩ (.pointer (some ⟨w10.heap.size,0,none⟩))) b3 3 #[.int .i64 ((t.r-1:Nat):Int)]/\Bx ((w10.alloc (.cells #[.int .i64 ((t.b:Int)+1),.int .i64 ((s.now:Int)+(c.deadline:Int)),.slice (some ⟨fb,0,none⟩) fl.length fcap] 242)).setCell ⟨p',3,none⟩ (.pointer (some ⟨w10.heap.size,0,none⟩))) b2 132 #[.map (some bm)]/\Bx ((w10.alloc (.cells #[.int .i64 ((t.b:Int)+1),.int .i64 ((s.now:Int)+(c.deadline:Int)),.slice (some ⟨fb,0,none⟩) fl.length fcap] 242)).setCell ⟨p',3,none⟩ (.pointer (some ⟨w10.heap.size,0,none⟩))) p' 240 (segCells (.slice ca cl.length ccap) (t.sg p').fails (t.sg p').by_ (.pointer (some ⟨w10.heap.size,0,none⟩)))/\Bx ((w10.alloc (.cells #[.int .i64 ((t.b:Int)+1),.int .i64 ((s.now:Int)+(c.deadline:Int)),.slice (some ⟨fb,0,none⟩) fl.length fcap] 242)).setCell ⟨p',3,none⟩ (.pointer (some ⟨w10.heap.size,0,none⟩))) w.heap.size 130 #[.pointer (some ⟨yb,0,none⟩)]/\Bx ((w10.alloc (.cells #[.int .i64 ((t.b:Int)+1),.int .i64 ((s.now:Int)+(c.deadline:Int)),.slice (some ⟨fb,0,none⟩) fl.length fcap] 242)).setCell ⟨p',3,none⟩ (.pointer (some ⟨w10.heap.size,0,none⟩))) yb 201 (yardCells c x (t.b+1) s.now qv sb s.outs.length ov)):=by
                  obtain⟨h1,h2,h3,h4,h5⟩:=HA10.out
                  exact⟨Bx.other h1 (λe=>by subst e;exact absurd (h1.ty.one h3.ty) (by decide)) 3 _,Bx.other h2 (λe=>by subst e;exact absurd (h2.ty.one h3.ty) (by decide)) 3 _,Bx.set h3 3 _,Bx.other h4 (λe=>by rw[e] at h3;exact absurd (h4.ty.one h3.ty) (by decide)) 3 _,Bx.other h5 (λe=>by subst e;exact absurd (h5.ty.one h3.ty) (by decide)) 3 _⟩
                refine hK.out _ _ ⟨HF10.out.2.2.2.1.cell (i:=0) rfl,HF10.out.2.2.2.2.cell (i:=12) rfl,HF10.out.2.2.2.2.cell (i:=13) rfl,HF10.out.2.2.2.2.cell (i:=5) rfl,HF10.out.2.1.cell (i:=0) rfl⟩ (λhHeld=>?_)
                clear hK K
                refine wpAnyH_done (by kernel_rfl) ?_ _
                refine⟨rfl,?_⟩
                have e0:(t.sg p').by_=0/\(t.sg p').job.isNone=true:=⟨hby,by rw[ej];rfl⟩
                have e1:(t.step c s.now p').b=t.b+1:=if_pos e0
                have e2:(t.step c s.now p').sg p'={t.sg p' with job:=some ⟨t.b+1,s.now+c.deadline,(makes t.g (t.sg p').l).1⟩}:=by
                  show (if p'=p' then t.put c s.now p' else t.sg p')=_
                  rw[if_pos rfl];exact if_pos e0
                obtain⟨-,-,D3,-,-,hM10,O10⟩:=HC10.out
                have nmp:p'≠bm:=λe=>by subst e;exact absurd (D3.ty.one hM10.ty) (by decide)
                have OA:Only W ((w10.alloc (.cells #[.int .i64 ((t.b:Int)+1),.int .i64 ((s.now:Int)+(c.deadline:Int)),.slice (some ⟨fb,0,none⟩) fl.length fcap] 242)).setCell ⟨p',3,none⟩ (.pointer (some ⟨w10.heap.size,0,none⟩))) (λk=>k=bm\/k=b3\/k=yb\/k=p'):=Only.set (Only.trans O10 (Only.of_below (below_new w10 _)) λ_ h=>.inl h) (.inl (.inr (.inr (.inr rfl))))
                have hww:w.heap.size<=w10.heap.size:=Nat.le_trans HB.out.only.size O10.size
                refine HFin.out _ OA HF10.out.1 ?_ (by rw[e1];exact HF10.out.2.2.2.2) ?_
                · exact hM10.same (((grown_set (w10.alloc (.cells #[.int .i64 ((t.b:Int)+1),.int .i64 ((s.now:Int)+(c.deadline:Int)),.slice (some ⟨fb,0,none⟩) fl.length fcap] 242)) p' 3 _).block bm (Nat.lt_of_lt_of_le hM10.lt (by simp)) (λe=>nmp (by simpa using e.symm))).trans ((below_new w10 _).block bm hM10.lt))
                · rw[e2]
                  have K10:KeepT W ((w10.alloc (.cells #[.int .i64 ((t.b:Int)+1),.int .i64 ((s.now:Int)+(c.deadline:Int)),.slice (some ⟨fb,0,none⟩) fl.length fcap] 242)).setCell ⟨p',3,none⟩ (.pointer (some ⟨w10.heap.size,0,none⟩))) [tMap,3,201,240]:=⟨OA.size,λk ty hk hn=>OA.block k hk.lt λe=>by
                    rcases e with rfl|rfl|rfl|rfl
                    · exact hn (by rw[hk.one HM.out.ty];simp)
                    · exact hn (by rw[hk.one HR3.out.ty];simp)
                    · exact hn (by rw[hk.one HB.out.yard.ty];simp)
                    · exact hn (by rw[hk.one HSeg.out.box.ty];simp)⟩
                  refine⟨.slice ca cl.length ccap,.pointer (some ⟨w10.heap.size,0,none⟩),cl,HF10.out.2.2.1,HSeg.out.chs.keptT K10 (λ_ h=>h) (by decide) (by decide),⟨w10.heap.size,.slice (some ⟨fb,0,none⟩) fl.length fcap,fl,rfl,?_,?_,HS10.out.2.2.1,?_,.inr hww,λg' hg'=>?_⟩,HSeg.out.own⟩
                  · have:=Bx.other (Bx.new w10 #[.int .i64 ((t.b:Int)+1),.int .i64 ((s.now:Int)+(c.deadline:Int)),.slice (some ⟨fb,0,none⟩) fl.length fcap] 242) (c:=p') (Nat.ne_of_lt D3.lt) 3 (.pointer (some ⟨w10.heap.size,0,none⟩))
                    rw[HCb.out,HCn.out] at this
                    rw[HCb.out,HCn.out]
                    exact this
                  · exact(HS10.out.1.mk _).grown (grown_set _ p' 3 _) (λg' hg' e=>by
                      have h1:=HS10.out.1.ty hg'
                      have:p'=g':=by simpa using e
                      subst this
                      exact absurd (D3.ty.one h1) (by decide))
                  · have:=HS10.out.2.2.2
                    have:=HX.out
                    have:=HOu.out
                    show fl.length<=n0+4*s.ids.length+256
                    omega
                  · have:fb=g':=by simpa[Value.ownBlock] using hg'
                    subst this
                    have h1:=HS10.out.2.1
                    have h2:=HB8.out.2.2.2.2.2.2.size
                    exact .inr (by have:=HB.out.only.size;omega)
            · rw[show decide ((t.sg p').by_≠0)=true by simpa using hby] at hpass
              have hfin:=HNo.out (λh=>hby h.1)
              have HF:Hid (KeepsFrom wn.heap.size W w7/\KpOf (.slice ta zs.length tcap) W w7/\BegInv w w7 S yb n0 c s qv sb ov x zs b2 b3 bm ((pre++[(⟨p',hp⟩:Pt (zs.map Prod.fst))]).map Subtype.val)):=hfin
              clear hfin
              gi_wp2_with (refine⟨trivial,?_⟩;gi_at_call 189;refine(calls_round _ _ hpass).mono ?_;rintro e w8 ⟨rfl,rfl⟩)
              exact HF.out
    case done=>
      rintro D ys W hD rfl hE hK
      gi_wp2
      refine⟨by simp,.inl ⟨_,_,rfl,run_takeDeferred hK,?_⟩⟩
      have hE2:=(BegInv.own (ps:=zs.map Prod.fst) (w:=w) (S:=S) (yb:=yb) (n0:=n0) (c:=c) (s:=s) (qv:=qv) (sb:=sb) (ov:=ov) (x:=x) (zs:=zs) (b2:=b2) (b3:=b3) (bm:=bm) (B:=wn.heap.size) (by omega) (by omega) (by omega) (by omega) (by omega)).putObj (.deferred none) hE hD hK rfl
      rw[List.attach_map_subtype_val] at hE2
      have hZ:=HZ.out
      exact⟨_,results_none rfl _ _ _,rfl,⟨q,sb,qv,ov,x,(hE2.1.done hZ (bs_begins hZ.rest.train.nd hZ.rest.train.snd _ [] (by simp) hE2.2.2.2 (.inl rfl))).is,HX.out⟩,hE2.1.only⟩
    case stop=>
      rintro D cd pre W hD ⟨k,hk,rfl⟩ hE hK
      have hE2:=(BegEnd.own (ps:=zs.map Prod.fst) (w:=w) (S:=S) (yb:=yb) (n0:=n0) (c:=c) (s:=s) (qv:=qv) (sb:=sb) (ov:=ov) (x:=x) (zs:=zs) (b2:=b2) (bm:=bm) (B:=wn.heap.size) (by omega) (by omega) (by omega) cd).putObj (.deferred none) hE hD hK rfl
      obtain⟨rfl,l,p,hlp,hB,hg,hn⟩:=hE2
      rw[List.map_take,List.attach_map_subtype_val] at hlp
      gi_wp2
      refine⟨by simp,.inl ⟨_,_,rfl,run_takeDeferred hK,?_⟩⟩
      have hZ:=HZ.out
      exact⟨_,results_none rfl _ _ _,rfl,⟨q,sb,qv,ov,x,(hB.done hZ (bs_begins hZ.rest.train.nd hZ.rest.train.snd l (p::(zs.map Prod.fst).drop k) ((List.take_append_drop k (zs.map Prod.fst)).symm.trans (by rw[hlp,List.append_assoc];rfl)) hg (.inr ⟨_,_,rfl,hn⟩))).is,HX.out⟩,hB.only⟩
end
end Go.Proofs.YtgamgomepdfgdaaGreat
