import Derived.Test.YtgamgomepdfgdaaGreatAM06
set_option maxRecDepth 100000
set_option maxHeartbeats 8000000
namespace Go.Proofs.YtgamgomepdfgdaaGreat
open Go.RowKit Go.Proofs.Tryz
section
variable{cs:Array Value}{xs xs':List Value}{b base base' n n' size':Nat}{e t:TypeId}{v v':Value}{w w1:World}
def dd (w:World)(v v':Value):Prop:=∀g,v'.ownBlock=some g->v.ownBlock=some g\/w.heap.size<=g
theorem dd.mk (h:v'.ownBlock=v.ownBlock\/∃g,v'.ownBlock=some g/\w1.heap.size<=g)(hl:w.heap.size<=w1.heap.size):dd w v v':=λg hg=>by
 rcases h with e|⟨a,e,h⟩
 ·exact .inl (e▸hg)
 rw[e] at hg;cases hg;exact .inr (e_ hl h)
theorem jh:(prog.info? 3).map (λi=>(i.zero,i.size,i.bytes))=some (some (I 0),1,8):=by kernel_rfl
structure ky (w:World)(base nb:Nat)(c:Cfg)(tip mv sv:Value)(s:Ts)(q:List Pw)(idv qv ov:Value):Prop where
 box:Bx w nb 163 (dS c tip mv idv qv sv ov s.acked s.begun s.now)
 low:base<=nb
 ids:w.ownsRow base 3 1 idv s.ids.length (s.ids.map cI)
 qs:q.map Prod.fst=s.queue
 row:w.ownsRow base 165 4 qv q.length ((q.map wt).flatMap cW)
 sl:∀x∈q,bD x.2
 outs:w.ownsRow base 99 3 ov s.outs.length (oc 0 s.outs)
theorem pf {size:Nat}(h:w.ownsRow base e size v n xs){g:Nat}(hv:v.ownBlock=some g):∃cur,w.heap[g]? =some (.cells cur e (0,0)):=(Sl.of_row h).typed hv
theorem cf {size:Nat}(h:w.ownsRow base e size v n xs)(hB:Bx w b t cs)(het:e≠t):v.ownBlock≠some b:=(Sl.of_row h).ne hB het
theorem ld {e':TypeId}{size:Nat}(h:w.ownsRow base e size v n xs)(h':w.ownsRow base' e' size' v' n' xs')(hne:e≠e'):v.ownBlock=none\/v.ownBlock≠v'.ownBlock:=by
 cases hv:v.ownBlock with
 |none=>exact .inl rfl
 |some g=>exact .inr λe=>(Sl.of_row h).apart (Sl.of_row h') hne hv e.symm
theorem d7 {size:Nat}(h:w.ownsRow base e size v n xs)(hB:Bx w b t cs)(het:e≠t):v.ownBlock=none\/v.ownBlock≠some b:=.inr (cf h hB het)
structure E8 (w wz:World)(base nb num:Nat)(c:Cfg)(tip mv sv:Value)(s:Ts)(q:List Pw)(idv qv ov:Value):Prop where
 now:∃idv',ky wz base nb c tip mv sv {s with ids:=s.ids++[num]} q idv' qv ov/\dd w idv idv'
 only:ai w wz λk=>k=nb\/idv.ownBlock=some k
 size:w.heap.size<=wz.heap.size
set_option linter.unusedSimpArgs false in
theorem E9 (base nb lane num:Nat)(pass:Bool)(ea:Option Addr)(en ec:Nat)(c:Cfg)(tip mv sv:Value)(s:Ts)(q:List Pw)(idv qv ov:Value)(w:World)(hN:ky w base nb c tip mv sv s q idv qv ov)(hb:base<=w.heap.size)(hi:s.ids.length<1048576000)(hq:q.length<1048576)(es:List Ed):
 c_ 131 #[Px nb,.agg #[I 1,I lane,I num,.bool pass,.slice ea en ec]] w λe w'=>e=.returned (.tuple #[])/\(∃idv' qv',ky w' base nb c tip mv sv {s with ids:=s.ids++[num],queue:=s.queue++[⟨num,lane,0,s.ids.length,es⟩]} (q++[(⟨num,lane,0,s.ids.length,es⟩,.slice ea en ec)]) idv' qv' ov/\dd w idv idv'/\dd w qv qv')/\ai w w' λk=>k=nb\/idv.ownBlock=some k\/qv.ownBlock=some k:=by
 obtain⟨i0,ab,am,an,ao⟩:=info_parts jh;obtain⟨n,b,rfl⟩:=ag hN.ids;obtain⟨j,a,rfl⟩:=ag hN.row;have HN:=hd hN;have aG:=hN.box.lt;have B:=cf hN.ids hN.box (by decide);have q1:Hid (s.ids.length+1<=maxLen):=by show _<=_;unfold maxLen;omega
 have q2:Hid ((s.ids.length+1)*8<=140737488355328):=e_ (u_ 8 (show s.ids.length+1<=1048576000 by omega)) (by decide);clear hN;go_enter func131,ntmps131;go_upto_region 1 with fail;have B0:Bx (w.alloc (.cells #[I 1,I lane,I num,.bool pass,.slice ea en ec] 168)) nb 163 (dS c tip mv (.slice n s.ids.length b) (.slice j q.length a) sv ov s.acked s.begun s.now):=HN.out.box.mk _;have X0:=Bx.new w #[I 1,I lane,I num,.bool pass,.slice ea en ec] 168;have R0:Hid ((w.alloc (.cells #[I 1,I lane,I num,.bool pass,.slice ea en ec] 168)).ownsRow base 3 1 (.slice n s.ids.length b) s.ids.length (s.ids.map cI)):=p_ HN.out.ids _;have ad:(w.alloc (.cells #[I 1,I lane,I num,.bool pass,.slice ea en ec] 168)).heap.size=w.heap.size+1:=by simp
 have m:Hid (Bl w (w.alloc (.cells #[I 1,I lane,I num,.bool pass,.slice ea en ec] 168))):=af _ _;obtain⟨j0,ac,aj,ak,al⟩:=info_parts i5;generalize w.alloc (.cells #[I 1,I lane,I num,.bool pass,.slice ea en ec] 168)=J at *;have R:=hd ad;have Z:base<=J.heap.size:=by omega
 have az:nb<J.heap.size:=by omega
 clear ad;have O:=hd B0;have T:=hd X0;have x0:=X0.c 0 (I 1);have x2:=X0.c 2 (I num);have c9:=B0.c 9 (.slice n s.ids.length b);have ax:∀o,(J.alloc o).cell? ⟨nb,9,none⟩=some (.slice n s.ids.length b):=λo=>(B0.mk o).cell (i:=9) rfl;clear B0 X0;go_upto_region 3 with fail;go_cut [22] from 4 (λ_ wz=>E8 w wz base nb num c tip mv sv s q (.slice n s.ids.length b) (.slice j q.length a) ov/\Bx wz w.heap.size 168 #[I 1,I lane,I num,.bool pass,.slice ea en ec])
 case first=>
  go_region_law ((refine aT rfl _ _ 56 rfl base _ i0 _ 1 8 underlying56 ab am an ao rfl (by decide) (.slice n s.ids.length b) _ _ rfl (p_ R0.out _) ⟨J.heap.size,0,none⟩ 1 1 [I num] rfl rfl (au J _ _) (by simp[Value.oneCell']) q1.out q2.out (e_ Z (by simp)) ?_;intro v3 w3 hown3 hg3 hloc3;obtain⟨r,t,rfl⟩:=ag hown3;have d:Hid (Bx w3 nb 163 (dS c tip mv (.slice n s.ids.length b) (.slice j q.length a) sv ov s.acked s.begun s.now)):=Bx.grown (O.out.mkd _) hg3 (λe=>B e.symm);have d9:w3.cell? ⟨nb,9,none⟩=some (.slice n s.ids.length b):=d.out.cell (i:=9) rfl;have f3:=d.out.fr 9;have U:=hd hown3;have p:Hid (J.grownBy w3 (Value.slice n s.ids.length b).ownBlock):=(v_ J _ _).trans ⟨hg3.os,hg3.tape,hg3.output,hg3.size,hg3.block⟩;have M:Hid ((Value.slice r (s.ids.length+1) t).ownBlock=(Value.slice n s.ids.length b).ownBlock\/∃g,(Value.slice r (s.ids.length+1) t).ownBlock=some g/\J.heap.size<=g):=hloc3.imp (λh=>h) (λh=>⟨_,h,jz J _⟩);clear hown3 hg3 hloc3))
  all_goals
   go_wp2_with fail;go_meet;have h:=HN.out
   have E:(Value.slice r (s.ids.length+1) t).ownBlock≠some nb:=by
    rcases M.out with e|⟨g,e,hg⟩
    ·rw[e];exact B
    rw[e];intro x;cases x;have:=R.out;omega
   have H:w.grownBy w3 (Value.slice n s.ids.length b).ownBlock:=⟨p.out.os.trans m.out.os,p.out.tape.trans m.out.tape,p.out.output.trans m.out.output,e_ m.out.size p.out.size,λk hk hne=>(p.out.block k (h_ hk m.out.size) hne).trans (m.out.block k hk)⟩;have N:=t_ h.row H (ld h.row h.ids (by decide));have f:=t_ h.outs H (ld h.outs h.ids (by decide));refine⟨⟨⟨.slice r (s.ids.length+1) t,⟨d.out.set 9 _,h.low,?_,h.qs,t_ N (ah _ _ _ _) (d7 h.row h.box (by decide)),h.sl,t_ f (ah _ _ _ _) (d7 h.outs h.box (by decide))⟩,dd.mk M.out m.out.size⟩,?_,?_⟩,?_⟩
   ·show World.ownsRow _ _ _ _ _ (s.ids++[num]).length ((s.ids++[num]).map cI);rw[a_,w_];exact t_ U.out (ah _ _ _ _) (.inr E)
   ·exact(ai.of_grown (S:=λk=>k=nb\/(Value.slice n s.ids.length b).ownBlock=some k) H (λk hk=>.inr hk)).trans (ai.of_grown (S:=λk=>k=nb\/(Value.slice n s.ids.length b).ownBlock=some k) (ah _ _ _ _) λk hk=>by cases hk;exact .inl rfl) λk hk=>.inl hk
   ·simpa using H.size
   refine Bx.other (T.out.grown p.out (λe=>?_)) (by omega) _ _;have:=(f_ h.ids w.heap.size e.symm).2;omega
 obtain⟨⟨⟨idv',F,Y⟩,X,C⟩,z⟩:=hcut;rename World=>wz;have HI:=hd F;have P:=hd X;have Q:=hd Y;have ap:=z.c 1 (I lane);have aq:=z.c 2 (I num);have ar:=z.c 4 (.slice ea en ec);have aF:=F.box.c 10 (.slice j q.length a);have aD:∀o,(wz.alloc o).cell? ⟨nb,10,none⟩=some (.slice j q.length a):=λo=>(F.box.mk o).cell (i:=10) rfl;have av:Hid (∃V,wz.heap[w.heap.size]? =some (.cells V 168 (0,0))):=⟨_,z⟩;have u:=cf F.row F.box (by decide);have aa:=e_ hb C;have aH:=F.box.lt;have t1:Hid (q.length+1<=maxLen):=by show _<=_;unfold maxLen;omega
 have t2:Hid ((q.length+1)*48<=140737488355328):=e_ (u_ 48 (show q.length+1<=1048576 by omega)) (by decide);have RZ:=hd (F.row);have L:=hd (F.box);clear F X Y z q1 q2 HN R0 m O T x0 x2 c9 ax B ab am an ao R Z az;have l:∀(W:World) (v:Value) (o:Nat),(W.setCell ⟨nb,10,none⟩ v).cell? ⟨w.heap.size,o,none⟩=W.cell? ⟨w.heap.size,o,none⟩:=λW v o=>H_ _ _ _ _ (by intro e;injection e with e1 e2;omega)
 have y:(Value.slice j q.length a).ownBlock≠some w.heap.size:=λe=>by
  obtain⟨V,hc⟩:=pf RZ.out e;obtain⟨aE,G⟩:=av.out;rw[hc] at G;injection G with G;injection G with _ h2 _;exact absurd h2 (by decide)
 go_wp2_with fail;refine wp_region_held_drew (S:=(λw'=>w'.cell? ⟨w.heap.size,1,none⟩=some (I lane)/\w'.cell? ⟨w.heap.size,2,none⟩=some (I num)/\w'.cell? ⟨w.heap.size,4,none⟩=some (.slice ea en ec))) (by kernel_rfl) ?_ (λhHeld=>?_)
 ·(try dsimp only);(first|go_keep|(refine⟨?_,?_,?_⟩<;>rw[l]<;>assumption))
 refine tk 0 ?_;refine tk 1 ?_;refine tk 2 ?_;refine tk 3 ?_;refine tk 5 ?_;refine tk 6 ?_;refine tk 7 ?_;refine tk 8 ?_;refine tk 9 ?_;refine tk 10 ?_;refine tk 11 ?_;refine rd_ 4 [12] rfl (λK hK=>?_) ?_
 ·go_simp;refine hK.out _ _ ?_ (λhHeld=>?_)
  ·(try dsimp only);(first|go_keep|(refine⟨?_,?_,?_⟩<;>rw[l]<;>assumption))
  clear hK K;refine rd_ 12 [] rfl (λK hK=>?_) ?_
  ·go_simp;refine hK.out _ _ ?_ (λhHeld=>?_)
   ·(try dsimp only);(first|go_keep|(refine⟨?_,?_,?_⟩<;>rw[l]<;>assumption))
   clear hK K;refine rd_ 13 [] rfl (λK hK=>?_) ?_
   ·((refine aT rfl _ _ 159 rfl base _ j0 _ 4 48 underlying159 ac aj ak al rfl (by decide) (.slice j q.length a) _ _ rfl (p_ RZ.out _) ⟨wz.heap.size,0,none⟩ 1 1 [I num,I lane,I 0,.slice ea en ec] rfl rfl (au wz _ _) (by simp[Value.oneCell']) t1.out t2.out (e_ aa (by simp)) ?_;intro v3 w3 hown3 hg3 hloc3;obtain⟨r,t,rfl⟩:=ag hown3;have aA:=K_ hg3 (ae (aw wz _) ap) (λe=>y e.symm);have aB:=K_ hg3 (ae (aw wz _) aq) (λe=>y e.symm);have aC:=K_ hg3 (ae (aw wz _) ar) (λe=>y e.symm);have d:Hid (Bx w3 nb 163 (dS c tip mv idv' (.slice j q.length a) sv ov s.acked s.begun s.now)):=Bx.grown (L.out.mkd _) hg3 (λe=>u e.symm);have ay:w3.cell? ⟨nb,10,none⟩=some (.slice j q.length a):=d.out.cell (i:=10) rfl;have f3:=d.out.fr 10;have U:=hd hown3;have p:Hid (wz.grownBy w3 (Value.slice j q.length a).ownBlock):=(v_ wz _ _).trans ⟨hg3.os,hg3.tape,hg3.output,hg3.size,hg3.block⟩;have M:Hid ((Value.slice r (q.length+1) t).ownBlock=(Value.slice j q.length a).ownBlock\/∃g,(Value.slice r (q.length+1) t).ownBlock=some g/\wz.heap.size<=g):=hloc3.imp (λh=>h) (λh=>⟨_,h,jz wz _⟩);clear hown3 hg3 hloc3));refine hK.out _ _ ?_ (λhHeld=>?_)
    ·(try dsimp only);(first|go_keep|(refine⟨?_,?_,?_⟩<;>rw[l]<;>assumption))
    clear hK K;refine tk 14 ?_;refine tk 15 ?_;refine rd_ 16 [] rfl (λK hK=>?_) ?_
    ·go_simp;refine hK.out _ _ ?_ (λhHeld=>?_)
     ·(try dsimp only);(first|go_keep|(refine⟨?_,?_,?_⟩<;>rw[l]<;>assumption))
     clear hK K;refine wpAnyH_done (by kernel_rfl) ?_ _;go_wp2_with fail;have h:=HI.out
     have E:(Value.slice r (q.length+1) t).ownBlock≠some nb:=by
      rcases M.out with e|⟨g,e,hg⟩
      ·rw[e];exact u
      rw[e];intro x;cases x;omega
     have A:=t_ h.ids p.out (ld h.ids h.row (by decide));have f:=t_ h.outs p.out (ld h.outs h.row (by decide));refine be_ ⟨rfl,⟨idv',.slice r (q.length+1) t,⟨d.out.set 10 _,h.low,t_ A (ah _ _ _ _) (d7 h.ids h.box (by decide)),?_,?_,?_,t_ f (ah _ _ _ _) (d7 h.outs h.box (by decide))⟩,Q.out,dd.mk M.out C⟩,?_⟩
     ·rw[w_,h.qs];rfl
     ·rw[a_,w_,r_];exact t_ U.out (ah _ _ _ _) (.inr E)
     ·intro x D;rcases E_.1 D with D|D
      ·exact h.sl x D
      obtain rfl:=o_.1 D;exact⟨_,_,_,rfl⟩
     exact((ai.mono P.out λk hk=>hk.imp (λh=>h) .inl).trans (ai.of_grown p.out (S:=λk=>k=nb\/(Value.slice n s.ids.length b).ownBlock=some k\/(Value.slice j q.length a).ownBlock=some k) λk hk=>.inr (.inr hk)) λk hk=>.inl hk).trans (ai.of_grown (S:=λk=>k=nb\/(Value.slice n s.ids.length b).ownBlock=some k\/(Value.slice j q.length a).ownBlock=some k) (ah _ _ _ _) λk hk=>by cases hk;exact .inl rfl) λk hk=>.inl hk
    exact AllReadyH.nil
   exact AllReadyH.nil
  exact AllReadyH.nil
 refine AllReadyH.cons rfl (λK hK=>?_) ?_
 ·go_simp;refine hK.out _ _ ?_ (λhHeld=>?_)
  ·(try dsimp only);(first|go_keep|(refine⟨?_,?_,?_⟩<;>rw[l]<;>assumption))
  clear hK K;refine rd_ 4 [] rfl (λK hK=>?_) ?_
  ·go_simp;refine hK.out _ _ ?_ (λhHeld=>?_)
   ·(try dsimp only);(first|go_keep|(refine⟨?_,?_,?_⟩<;>rw[l]<;>assumption))
   clear hK K;refine rd_ 13 [] rfl (λK hK=>?_) ?_
   ·((refine aT rfl _ _ 159 rfl base _ j0 _ 4 48 underlying159 ac aj ak al rfl (by decide) (.slice j q.length a) _ _ rfl (p_ RZ.out _) ⟨wz.heap.size,0,none⟩ 1 1 [I num,I lane,I 0,.slice ea en ec] rfl rfl (au wz _ _) (by simp[Value.oneCell']) t1.out t2.out (e_ aa (by simp)) ?_;intro v3 w3 hown3 hg3 hloc3;obtain⟨r,t,rfl⟩:=ag hown3;have aA:=K_ hg3 (ae (aw wz _) ap) (λe=>y e.symm);have aB:=K_ hg3 (ae (aw wz _) aq) (λe=>y e.symm);have aC:=K_ hg3 (ae (aw wz _) ar) (λe=>y e.symm);have d:Hid (Bx w3 nb 163 (dS c tip mv idv' (.slice j q.length a) sv ov s.acked s.begun s.now)):=Bx.grown (L.out.mkd _) hg3 (λe=>u e.symm);have ay:w3.cell? ⟨nb,10,none⟩=some (.slice j q.length a):=d.out.cell (i:=10) rfl;have f3:=d.out.fr 10;have U:=hd hown3;have p:Hid (wz.grownBy w3 (Value.slice j q.length a).ownBlock):=(v_ wz _ _).trans ⟨hg3.os,hg3.tape,hg3.output,hg3.size,hg3.block⟩;have M:Hid ((Value.slice r (q.length+1) t).ownBlock=(Value.slice j q.length a).ownBlock\/∃g,(Value.slice r (q.length+1) t).ownBlock=some g/\wz.heap.size<=g):=hloc3.imp (λh=>h) (λh=>⟨_,h,jz wz _⟩);clear hown3 hg3 hloc3));refine hK.out _ _ ?_ (λhHeld=>?_)
    ·(try dsimp only);(first|go_keep|(refine⟨?_,?_,?_⟩<;>rw[l]<;>assumption))
    clear hK K;refine tk 14 ?_;refine tk 15 ?_;refine rd_ 16 [] rfl (λK hK=>?_) ?_
    ·go_simp;refine hK.out _ _ ?_ (λhHeld=>?_)
     ·(try dsimp only);(first|go_keep|(refine⟨?_,?_,?_⟩<;>rw[l]<;>assumption))
     clear hK K;refine wpAnyH_done (by kernel_rfl) ?_ _;go_wp2_with fail;have h:=HI.out
     have E:(Value.slice r (q.length+1) t).ownBlock≠some nb:=by
      rcases M.out with e|⟨g,e,hg⟩
      ·rw[e];exact u
      rw[e];intro x;cases x;omega
     have A:=t_ h.ids p.out (ld h.ids h.row (by decide));have f:=t_ h.outs p.out (ld h.outs h.row (by decide));refine be_ ⟨rfl,⟨idv',.slice r (q.length+1) t,⟨d.out.set 10 _,h.low,t_ A (ah _ _ _ _) (d7 h.ids h.box (by decide)),?_,?_,?_,t_ f (ah _ _ _ _) (d7 h.outs h.box (by decide))⟩,Q.out,dd.mk M.out C⟩,?_⟩
     ·rw[w_,h.qs];rfl
     ·rw[a_,w_,r_];exact t_ U.out (ah _ _ _ _) (.inr E)
     ·intro x D;rcases E_.1 D with D|D
      ·exact h.sl x D
      obtain rfl:=o_.1 D;exact⟨_,_,_,rfl⟩
     exact((ai.mono P.out λk hk=>hk.imp (λh=>h) .inl).trans (ai.of_grown p.out (S:=λk=>k=nb\/(Value.slice n s.ids.length b).ownBlock=some k\/(Value.slice j q.length a).ownBlock=some k) λk hk=>.inr (.inr hk)) λk hk=>.inl hk).trans (ai.of_grown (S:=λk=>k=nb\/(Value.slice n s.ids.length b).ownBlock=some k\/(Value.slice j q.length a).ownBlock=some k) (ah _ _ _ _) λk hk=>by cases hk;exact .inl rfl) λk hk=>.inl hk
    exact AllReadyH.nil
   exact AllReadyH.nil
  exact AllReadyH.nil
 exact AllReadyH.nil
variable{c:Cfg}{ts:List TypeId}{n0 nb size:Nat}{S:Nat->Prop}{z:Nz}{s s':Ts}{ov':Value}{w' w0:World}
theorem aV (h:w.ownsRow base e size v n xs){g:Nat}(hg:v.ownBlock=some g):cy w g e:=(Sl.of_row h).ty hg
theorem aN (h:w.ownsRow base e size v n xs)(hk:∀g,v.ownBlock=some g->w'.heap[g]? =w.heap[g]?):w'.ownsRow base e size v n xs:=by
 refine⟨h.1,?_⟩;rcases h.2 with c|⟨g,a,b,rfl,d,f,i⟩
 ·exact .inl c
 exact .inr ⟨g,a,b,rfl,d,(hk g rfl).trans f,i⟩
theorem aM.row (h:aM w w' ts){base:Nat}{e:TypeId}{size n:Nat}{v:Value}{xs:List Value}(hr:w.ownsRow base e size v n xs)(ht:e∉ts):w'.ownsRow base e size v n xs:=aN hr λ_ hg=>h.same _ _ (aV hr hg) ht
theorem aM.of_only (h:ai w w' S)(hS:∀k,S k->∃t∈ts,cy w k t):aM w w' ts:=
 ⟨h.size,λk _ hk ht=>h.block k hk.lt λe=>by
  obtain⟨c,a,b⟩:=hS k e
  exact ht (hk.one b▸a)⟩
theorem dd.ne (h:dd w v v'){b:Nat}(hb:b<w.heap.size)(hn:v.ownBlock≠some b):v'.ownBlock≠some b:=λe=>by
 rcases h b e with h|a
 ·exact hn h
 omega
theorem dd.refl (w:World)(v:Value):dd w v v:=λ_ h=>.inl h
theorem dd.row (h:w'.ownsRow base e size v' n xs)(hl:w.heap.size<=base):dd w v v':=λg hg=>.inr (e_ hl (f_ h g hg).1)
theorem eJ (hb:Bl w0 w)(h:ai w w' S)(hS:∀k,S k->w0.heap.size<=k):Bl w0 w':=
 hb.trans ⟨h.os,h.tape,h.output,h.size,λk hk=>h.block k (h_ hk hb.size) λe=>by have:=hS k e;omega⟩
theorem aS.q (h:aS w0 w nb n0 c s z):ky w w0.heap.size nb c z.tip z.mv z.sv s z.q z.idv z.qv z.ov:=
 ⟨h.box,h.low,h.ids,h.qs,h.row,λx hx=>(h.eds x hx).form,h.outs⟩
def aS.foot (nb:Nat)(z:Nz):Nat->Prop:=λk=>k=nb\/z.idv.ownBlock=some k\/z.qv.ownBlock=some k\/z.ov.ownBlock=some k
theorem aS.footT (h:aS w0 w nb n0 c s z):∀k,aS.foot nb z k->∃t∈[163,3,165,99],cy w k t:=λk a=>by
 rcases a with rfl|a|a|a
 ·exact⟨_,by simp,h.box.ty⟩
 ·exact⟨3,by simp,aV h.ids a⟩
 ·exact⟨165,by simp,aV h.row a⟩
 exact⟨99,by simp,aV h.outs a⟩
theorem aS.footL (h:aS w0 w nb n0 c s z):∀k,aS.foot nb z k->w0.heap.size<=k:=λk a=>by
 rcases a with rfl|a|a|a
 ·exact h.low
 ·exact(f_ h.ids k a).1
 ·exact(f_ h.row k a).1
 exact(f_ h.outs k a).1
theorem aS.re {q':List Pw}{idv' qv':Value}(h:aS w0 w nb n0 c s z)(hO:ai w w' (aS.foot nb z))(hQ:ky w' w0.heap.size nb c z.tip z.mv z.sv s' q' idv' qv' ov')(hi:dd w z.idv idv')(hq:dd w z.qv qv')(he:∀x∈q',iS w0 x.1.edits x.2)(h1:s'.tip=s.tip)(h2:s'.main=s.main)(h3:s'.segs=s.segs)(h4:s.ids.length<=s'.ids.length)(h5:s.outs.length<=s'.outs.length):
 aS w0 w' nb n0 c s' {z with q:=q',idv:=idv',qv:=qv',ov:=ov'}:=by
 have K:=aM.of_only hO h.footT;refine⟨eJ h.below hO h.footL,h.low,hQ.box,h1▸h.tip.keptT K (by decide) (by omega),h2▸h.mfst,K.row h.mrow (by decide),λy hy=>?_,hQ.ids,hQ.qs,hQ.row,he,h3▸h.ss,K.row h.srow (by decide),λy hy=>?_,hQ.outs⟩
 ·obtain⟨a,b⟩:=h.mids y hy;refine⟨a.kept λg hg=>hO.block g (a.lt hg) λe=>?_,λg hg=>hi.ne (a.lt hg) (b g hg)⟩;rcases e with e|e|e|e
  ·exact absurd ((a.ty hg).one (e▸h.box.ty)) (by decide)
  ·exact b g hg e
  ·exact absurd ((a.ty hg).one (aV h.row e)) (by decide)
  exact absurd ((a.ty hg).one (aV h.outs e)) (by decide)
 obtain⟨a,b⟩:=h.segs y hy;refine⟨a.kept (λg hg=>hO.block g (a.l.row.lt hg) λe=>?_) (λg hg=>K.same _ _ hg (by decide)) (by unfold Ts.top;omega),λg hg=>hq.ne (a.l.row.lt hg) (b g hg)⟩;rcases e with e|e|e|e
 ·exact absurd ((a.l.row.ty hg).one (e▸h.box.ty)) (by decide)
 ·exact absurd ((a.l.row.ty hg).one (aV h.ids e)) (by decide)
 ·exact b g hg e
 exact absurd ((a.l.row.ty hg).one (aV h.outs e)) (by decide)
theorem aS.later (h:aS w0 w nb n0 c s z)(hb:Bl w w'):aS w0 w' nb n0 c s z:=by
 have O:ai w w' (aS.foot nb z):=ai.of_below hb;have a:∀{base:Nat} {e:TypeId} {size n:Nat} {v:Value} {xs:List Value},w.ownsRow base e size v n xs->w'.ownsRow base e size v n xs:=λhr=>aN hr λg hg=>hb.block g (f_ hr g hg).2;exact h.re O ⟨h.box.later hb,h.low,a h.ids,h.qs,a h.row,λx hx=>(h.eds x hx).form,a h.outs⟩ (dd.refl _ _) (dd.refl _ _) h.eds rfl rfl rfl (b_ _) (b_ _)
theorem bM.later (h:bM w0 w nb n0 c s)(hb:Bl w w'):bM w0 w' nb n0 c s:=by
 obtain⟨z,h⟩:=h;exact⟨z,h.later hb⟩
variable{q:List Pw}{idv mv ov qv sv tip:Value}
theorem cG (h:ai w w' S){b o:Nat}{v:Value}(hn:¬S b)(hc:w.cell? ⟨b,o,none⟩=some v):w'.cell? ⟨b,o,none⟩=some v:=
 (L_ (w:=w) (h.block b (aP hc) hn)).trans hc
theorem ky.later (h:ky w base nb c tip mv sv s q idv qv ov)(hb:Bl w w'):ky w' base nb c tip mv sv s q idv qv ov:=
 ⟨h.box.later hb,h.low,aN h.ids λg hg=>hb.block g (f_ h.ids g hg).2,h.qs,aN h.row λg hg=>hb.block g (f_ h.row g hg).2,h.sl,aN h.outs λg hg=>hb.block g (f_ h.outs g hg).2⟩
def woQ (id:Nat)(q:List Pw):List Pw:=q.filter λx=>x.1.id !=id
theorem yY (id:Nat)(q:List Pw):wo id (q.map wt)=(woQ id q).map wt:=by
 rw[wo,woQ,List.filter_map];rfl
theorem Fa (base nb num:Nat)(pass:Bool)(c:Cfg)(tip mv sv:Value)(s:Ts)(q:List Pw)(idv qv ov:Value)(w:World)(hN:ky w base nb c tip mv sv s q idv qv ov)(hb:base<=w.heap.size)(hex:∃x∈s.queue,x.id=num)(hq:s.queue.length<1048576)(ho:s.outs.length<1048576000):
 c_ 131 #[Px nb,.agg #[I 2,I 0,I num,.bool pass,Zn]] w λe w'=>e=.returned (.tuple #[])/\(∃qv' ov',ky w' base nb c tip mv sv {s with queue:=s.queue.filter λc=>c.id !=num,outs:=s.outs++[(num,4)]} (woQ num q) idv qv' ov'/\dd w qv qv')/\ai w w' λk=>k=nb\/ov.ownBlock=some k:=by
 have R:q.length=s.queue.length:=by rw[<-hN.qs,d_]
 have Y:0<q.length:=by
  obtain⟨x,G,_⟩:=hex;rw[R];exact List.length_pos_of_mem G
 obtain⟨g,a,rfl⟩:∃g a,qv=s_ g 0 (q.map wt).length a:=by
  rcases hN.row.2 with ⟨_,h0⟩|⟨g,O,aa,e,_⟩
  ·omega
  exact⟨g,O,by rw[d_];exact e⟩
 have U:=hd hN;have ab:=hN.box.lt;have S:=hN.box.mk (.cells #[I 2,I 0,I num,.bool pass,Zn] 168);have N:=Bx.new w #[I 2,I 0,I num,.bool pass,Zn] 168
 have E:(w.alloc (.cells #[I 2,I 0,I num,.bool pass,Zn] 168)).ownsRow base 165 4 (s_ g 0 (q.map wt).length a) (q.map wt).length ((q.map wt).flatMap cW):=by
  have:=p_ hN.row (.cells #[I 2,I 0,I num,.bool pass,Zn] 168);rwa [<-d_ (f:=wt)] at this
 have X:=mx nb num (q.map wt) g a base _ _ S rfl E (λx G=>by
  obtain⟨y,hy,rfl⟩:=q_.1 G
  exact hN.sl y hy) (by rw[d_];omega)
 have V:Hid (∀W v',Bx W nb 163 (dS c tip mv idv v' sv ov s.acked s.begun s.now)->W.ownsRow base 99 3 ov s.outs.length (oc 0 s.outs)->base<=W.heap.size->c_ 177 #[Px nb,I num,I 4] W λe w'=>e=.returned (.tuple #[])/\∃t,Bx w' nb 163 (dS c tip mv idv v' sv t s.acked s.begun s.now)/\w'.ownsRow base 99 3 t (s.outs.length+1) (oc 0 (s.outs++[(num,4)]))/\ai W w' (λk=>k=nb\/ov.ownBlock=some k)):=λW v' hB hS hbW=>by
  obtain⟨oa,H,rfl⟩:=ag hS;refine(sZ nb num 4 s.outs.length base oa H _ _ W hB rfl hS (cf hS hB (by decide)) hbW ho).mono ?_;rintro e w' ⟨rfl,t,P,Q,_,h4⟩;refine⟨rfl,t,P,?_,h4⟩;rw[j2,O_];exact Q
 have u:Hid (Bl w (w.alloc (.cells #[I 2,I 0,I num,.bool pass,Zn] 168))):=af _ _;clear hN S E hex;go_enter func131,ntmps131;go_upto_region 1 with fail;generalize w.alloc (.cells #[I 2,I 0,I num,.bool pass,Zn] 168)=w0 at *;have x0:=N.c 0 (I 2);have Z:=N.c 2 (I num);clear N;go_upto_region 7 with fail;go_fit X;rintro e K ⟨rfl,J,o,r,p⟩;have h:=U.out;have F:=u.out.size;have d:=(ai.of_below u.out).trans p λk hk=>.inl hk;have b:=aN h.outs λg hg=>d.block g (f_ h.outs g hg).2 (λe=>cf h.outs h.box (by decide) (by rw[hg,e]));have m:=aN h.ids λg hg=>d.block g (f_ h.ids g hg).2 (λe=>cf h.ids h.box (by decide) (by rw[hg,e]));have l:=V.out K J o b (e_ hb d.size);have ac:=cG p (by omega) Z
 have j:Hid (K.ownsRow base 165 4 J (woQ num q).length (((woQ num q).map wt).flatMap cW)):=by
  have:=cp r (e_ hb F);rw[yY,d_] at this;exact this
 have L:Hid (dd w (s_ g 0 (q.map wt).length a) J):=dd.row r F;have i:=hd m;have M:=hd d;have z:=hd o;have A:=hd b;clear h X o r p d b m V x0 Z;go_upto_region 7 with fail;go_wp2_with fail;go_fit l;rintro e w2 ⟨rfl,t,B,D,C⟩;have H2:Hid _:=B;have H3:Hid _:=D;have T:Hid _:=C;clear B D C l;go_wp2_with fail;have h:=U.out
 have n:∀g,g<K.heap.size->g≠nb->ov.ownBlock≠some g->w2.heap[g]? =K.heap[g]? :=λg hg P Q=>T.out.block g hg (λe=>by
  rcases e with e|e
  ·exact P e
  exact Q e)
 refine be_ ⟨rfl,⟨J,t,⟨H2.out,h.low,?_,?_,?_,λx G=>h.sl x (Z_.1 G).1,?_⟩,L.out⟩,?_⟩
 ·exact aN i.out λg hg=>n g (f_ i.out g hg).2 (λe=>cf i.out z.out (by decide) (by rw[hg,e])) ((Sl.of_row i.out).apart (Sl.of_row A.out) (by decide) hg)
 ·show (woQ num q).map Prod.fst=s.queue.filter _;rw[<-h.qs,woQ,List.filter_map];rfl
 ·exact aN j.out λg hg=>n g (f_ j.out g hg).2 (λe=>cf j.out z.out (by decide) (by rw[hg,e])) ((Sl.of_row j.out).apart (Sl.of_row A.out) (by decide) hg)
 ·show World.ownsRow _ _ _ _ _ (s.outs++[(num,4)]).length _;rw[a_];exact H3.out
 exact(ai.mono M.out λk hk=>.inl hk).trans (ai.mono T.out λk hk=>hk) λk hk=>.inl hk
theorem Fb (base nb num:Nat)(pass:Bool)(c:Cfg)(tip mv sv:Value)(s:Ts)(q:List Pw)(idv qv ov:Value)(w:World)(hN:ky w base nb c tip mv sv s q idv qv ov)(ha:s.acked<1048576000):
 c_ 131 #[Px nb,.agg #[I 6,I 0,I num,.bool pass,Zn]] w λe w'=>e=.returned (.tuple #[])/\ky w' base nb c tip mv sv {s with acked:=s.acked+1} q idv qv ov/\ai w w' λk=>k=nb:=by
 have a:=ky.later hN (af w (.cells #[I 6,I 0,I num,.bool pass,Zn] 168));have d:=Bx.new w #[I 6,I 0,I num,.bool pass,Zn] 168;have b:Hid (Bl w (w.alloc (.cells #[I 6,I 0,I num,.bool pass,Zn] 168))):=af _ _;have j:IntKind.i64.wrap ((s.acked:Int)+1)=(s.acked:Int)+1:=wrap_i64 (by omega) (by omega);clear hN;go_enter func131,ntmps131;go_upto_region 1 with fail;generalize w.alloc (.cells #[I 6,I 0,I num,.bool pass,Zn] 168)=l at *;have m:=d.c 0 (I 6);have g:=a.box.c 13 (I s.acked);have i:=a.box.fr 13;have f:=hd a;clear d a;go_wp2_with fail;have h:=f.out;refine be_ ⟨rfl,⟨?_,h.low,t_ h.ids (ah _ _ _ _) (d7 h.ids h.box (by decide)),h.qs,t_ h.row (ah _ _ _ _) (d7 h.row h.box (by decide)),h.sl,t_ h.outs (ah _ _ _ _) (d7 h.outs h.box (by decide))⟩,?_⟩
 ·have:=h.box.set 13 (I ((s.acked:Int)+1));simpa[dS] using this
 exact(ai.of_below b.out).trans (ai.of_grown (S:=λk=>k=nb) (ah _ _ _ _) λk hk=>by cases hk;rfl) λk hk=>.inl hk
theorem nC (q:List Wt)(lv:Value)(a b:Nat)(w:World)(hS:Sl w 165 4 lv q.length (q.flatMap cW))(hsl:∀x∈q,bD x.2.2.2)(ha:a<=b)(hb:b<=q.length)(hn:q.length<=64):
 c_ 219 #[lv,I a,I b] w λe w'=>(∃v',e=.returned v'/\w'.ownsRow w.heap.size 165 4 v' (b-a) (((q.drop a).take (b-a)).flatMap cW))/\Bl w w':=by
 obtain⟨M,J,A,B,C⟩:=info_parts i5;obtain⟨Y,E,rfl⟩:=hS.form;have D:=hd hS;have s:=hd hsl;clear hS hsl;go_enter func219,ntmps219;go_wp2_with fail;go_loopw [7,8] (λlv iv wr=>∃k:Nat,a+k<=b/\iv=I ((a+k:Nat):Int)/\Hid (wr.ownsRow w.heap.size 165 4 lv k (((q.drop a).take k).flatMap cW))/\Hid (Bl w wr)) (λ_ i _=>b-(intOf i).toNat)
 case atStart=>exact⟨0,ha,rfl,B_ _ _ _ _,n_ _ _⟩
 obtain⟨k,K,rfl,p,h⟩:=hrel;by_cases hlk:a+k<b
 ·have d:a+k<q.length:=by omega
  obtain⟨g,l,H,L,_⟩:=D.out.addr (by omega);cases L
  obtain⟨x,r⟩:∃x,x=q[a+k]:=⟨_,rfl⟩;obtain⟨t,y,v,c⟩:=s.out _ (i_ d);rw[<-r] at c
  have f:∀j (u:Value),j<4->(cW x)[j]? =some u->wr.cell? ⟨g,l+(a+k)*4+j,none⟩=some u:=λj u hj hu=>by
   have:=D.out.cell (j:=(a+k)*4+j) (u:=u) (by rw[aq cW 4 (λ_=>rfl) q (a+k) j d hj,<-r];exact hu);rw[J_];exact ae h.out this
  have G:Hid (((q.drop a).take (k+1)).flatMap cW=((q.drop a).take k).flatMap cW++[I x.1,I x.2.1,I x.2.2.1,.slice t y v]):=by
   show _=_;rw[g_ (show k<(q.drop a).length by rw[G_];omega),r_];simp[cW,<-r,c]
  clear r;obtain⟨m,z⟩:∃m,m=a+k:=⟨_,rfl⟩;rw[<-z] at f hlk K d ⊢;have U:wr.cell? ⟨g,l+m*4,none⟩=some (I x.1):=f 0 _ (by decide) rfl;have V:=f 1 (I x.2.1) (by decide) rfl;have W:=f 2 (I x.2.2.1) (by decide) rfl;have X:=f 3 (.slice t y v) (by decide) (by rw[<-c];rfl);generalize x.1=P at *;generalize x.2.1=Q at *;generalize x.2.2.1=R at *;have n:=hd z;clear c f z;have N:Hid (k+1<=maxLen):=by show _<=_;have:=n.out;unfold maxLen;omega
  have O:Hid ((k+1)*48<=140737488355328):=by show _<=_;have:=n.out;omega
  have F:Hid (∀o,w.heap.size<=(wr.alloc o).heap.size):=λo=>by
   have:=h.out.size;show w.heap.size<=_;simp;omega
  go_wp2_with (at_builtin;refine wpList_append_own_at _ rfl (.tmp 15) (.tmp 20) _ rfl w.heap.size _ M _ 4 48 underlying159 J A B C rfl (by decide) u7 _ _ rfl (p_ p.out _) ⟨wr.heap.size,0,none⟩ 1 1 [I P,I Q,I R,.slice t y v] rfl rfl (au wr _ _) (by simp[Value.oneCell']) N.out O.out (F.out _) ?_;intro v3 w3 hown3 hg3 hnil3 hloc3);refine⟨⟨k+1,by have:=n.out;omega,by have:=n.out;go_num,?_,?_⟩,by simp[intOf];omega⟩
  ·show w3.ownsRow _ _ _ _ _ _;rw[G.out];exact hown3
  exact(h.out.alloc h.out.size _).grown hg3 (F.out _) (λj hj=>(f_ p.out j hj).1)
 obtain rfl:b=a+k:=by omega
 obtain⟨S,T,rfl⟩:=ag p.out;go_wp2_with fail;go_ret;exact⟨⟨_,rfl,by rw[Nat.add_sub_cancel_left];exact p.out⟩,h.out⟩
variable{k:Nat}
theorem y8:(prog.info? 170).map (λi=>(i.zero,i.size,i.bytes))=some (some (.agg #[Zn,I 0,I 0,.bool false,I 0,I 0,Zn]),7,88):=by kernel_rfl
def tT (z:Sv):Prop:=(∃a cap,z.lv=.slice a z.cl.length cap)/\bD z.tv
def fu (os:List Sv):List Sv:=os.filter λz=> !z.cl.isEmpty
theorem za {os:List Sv}(h:k<os.length)(he:os[k].cl≠[]):fu (os.take (k+1))=fu (os.take k)++[os[k]]:=by
 rw[g_ h,fu,fu,List.filter_append];simp[he]
theorem wR {os:List Sv}(h:k<os.length)(he:os[k].cl=[]):fu (os.take (k+1))=fu (os.take k):=by
 rw[g_ h,fu,fu,List.filter_append];simp[he]
theorem yZ (os:List Sv)(k:Nat):(fu (os.take k)).length<=k:=by
 refine e_ (List.length_filter_le _ _) ?_;rw[l_];omega
theorem rR (nb:Nat)(os zs:List Sv)(ov sv:Value)(cs:Array Value)(w:World)(hB:Bx w nb 163 cs)(h11:cs[11]? =some sv)(hO:Sl w 170 7 ov os.length (os.flatMap cSg))(hS:Sl w 170 7 sv zs.length (zs.flatMap cSg))(ho:∀z∈os,tT z)(hz:∀z∈zs,tT z)(hn:os.length<=8)(hm:zs.length<=64):
 c_ 218 #[Px nb,ov] w λe w'=>e=.returned (.tuple #[])/\(∃v',Bx w' nb 163 (cs.setIfInBounds 11 v')/\w'.ownsRow w.heap.size 170 7 v' (fu os++zs.drop 1).length ((fu os++zs.drop 1).flatMap cSg))/\ai w w' (λk=>k=nb):=by
 obtain⟨i0,hi,C,D,E⟩:=info_parts y8;obtain⟨oa,aa,rfl⟩:=hO.form;obtain⟨sa,ab,rfl⟩:=hS.form;have HB:=hd hB;have HO:=hd hO;have HS:=hd hS;have M:=hd ho;have N:=hd hz;have ak:=hB.lt;obtain⟨R,P⟩:∃R,R=fu os++zs.drop 1:=⟨_,rfl⟩;rw[<-P];have HR:=hd P;clear hB hO hS ho hz P;go_enter func218,ntmps218;go_wp2_with fail;go_loopw [4,5] (λlv iv wr=>∃k:Nat,k<=os.length/\iv=I k/\Hid (wr.ownsRow w.heap.size 170 7 lv (fu (os.take k)).length ((fu (os.take k)).flatMap cSg))/\Hid (Bl w wr)) (λ_ i _=>os.length-(intOf i).toNat)
 case atStart=>exact⟨0,k_ _,rfl,B_ _ _ _ _,n_ _ _⟩
 obtain⟨k,hk,rfl,f,d⟩:=hrel;by_cases hlk:k<os.length
 ·obtain⟨g,l,O,V,_⟩:=HO.out.addr (by omega);cases V
  obtain⟨⟨q,r,b⟩,s,y,t,c⟩:=M.out _ (i_ hlk)
  have a:∀j (u:Value),j<7->(cSg os[k])[j]? =some u->wr.cell? ⟨g,l+k*7+j,none⟩=some u:=λj u hj hu=>by
   have:=HO.out.cell (j:=k*7+j) (u:=u) (by rw[aq cSg 7 (λ_=>rfl) os k j hlk hj];exact hu);rw[J_];exact ae d.out this
  have d0:wr.cell? ⟨g,l+k*7,none⟩=some (.slice q os[k].cl.length r):=a 0 _ (by decide) (by rw[<-b];rfl);have d1:=a 1 (I os[k].x.fails) (by decide) rfl;have d2:=a 2 (I os[k].x.by_) (by decide) rfl;have d3:=a 3 (.bool (os[k].x.by_ !=0)) (by decide) rfl;have d4:=a 4 (I (cr os[k].x.job)) (by decide) rfl;have d5:=a 5 (I os[k].til) (by decide) rfl;have d6:=a 6 (.slice s y t) (by decide) (by rw[<-c];rfl)
  have H:Hid (cSg os[k]=[.slice q os[k].cl.length r,I os[k].x.fails,I os[k].x.by_,.bool (os[k].x.by_ !=0),I (cr os[k].x.job),I os[k].til,.slice s y t]):=by
   show _=_;rw[cSg,b,c]
  have W:=yZ os k;by_cases he:os[k].cl=[]
  ·have A:Hid (fu (os.take (k+1))=fu (os.take k)):=wR hlk he;rw[he,List.length_nil] at d0;clear b c a H he d1 d2 d3 d4 d5 d6;go_wp2_with fail;exact⟨⟨k+1,hlk,by go_num,by rw[A.out];exact f.out,d.out⟩,by simp[intOf];omega⟩
  have A:Hid (fu (os.take (k+1))=fu (os.take k)++[os[k]]):=za hlk he;have hp:=S_.2 he;have K:Hid ([os[k]].flatMap cSg=cSg os[k]):=by show _=_;simp
  clear b c a he;generalize os[k].cl.length=x0 at *;generalize os[k].x.fails=x1 at *;generalize os[k].x.by_=G at *;generalize (G !=0)=x3 at *;generalize cr os[k].x.job=x4 at *;generalize os[k].til=x5 at *;have X:Hid ((fu (os.take k)).length+1<=maxLen):=by show _<=_;unfold maxLen;omega
  have Z:Hid (((fu (os.take k)).length+1)*88<=140737488355328):=by show _<=_;omega
  have F:Hid (∀o,w.heap.size<=(wr.alloc o).heap.size):=λo=>by
   have:=d.out.size;show w.heap.size<=_;simp;omega
  go_wp2_with (at_builtin;refine wpList_append_own_at _ rfl (.tmp 20) (.tmp 25) _ rfl w.heap.size _ i0 _ 7 88 underlying160 hi C D E rfl (by decide) u4 _ _ rfl (p_ f.out _) ⟨wr.heap.size,0,none⟩ 1 1 [.slice q x0 r,I x1,I G,.bool x3,I x4,I x5,.slice s y t] rfl rfl (au wr _ _) (by simp[Value.oneCell']) X.out Z.out (F.out _) ?_;intro v3 w3 hown3 hg3 hnil3 hloc3);refine⟨⟨k+1,hlk,by go_num,?_,?_⟩,by simp[intOf];omega⟩
  ·show w3.ownsRow _ _ _ _ _ _;rw[A.out,r_,a_,K.out,H.out];exact hown3
  exact(d.out.alloc d.out.size _).grown hg3 (F.out _) (λj hj=>(f_ f.out j hj).1)
 obtain rfl:k=os.length:=by omega
 rw[W_] at f;have T:(fu os).length<=8:=e_ (List.length_filter_le _ _) hn;obtain⟨m,B⟩:∃m,m=fu os:=⟨_,rfl⟩;rw[<-B] at f T HR;clear B;go_wp2_with fail;go_loopw [4,6] (λlv iv wr=>∃k:Nat,k<=zs.length-1/\iv=I ((k:Int)+1)/\Hid (wr.ownsRow w.heap.size 170 7 lv (m++(zs.drop 1).take k).length ((m++(zs.drop 1).take k).flatMap cSg))/\Hid (Bl w wr)) (λ_ i _=>zs.length-(intOf i).toNat)
 case atStart=>exact⟨0,k_ _,rfl,by simpa using f,d⟩
 clear f d;obtain⟨k,hk,rfl,f,d⟩:=hrel;have ac:=ae d.out (HB.out.cell h11);by_cases hlk:k+1<zs.length
 ·obtain⟨g,l,O,V,_⟩:=HS.out.addr (by omega);cases V
  obtain⟨⟨q,r,b⟩,s,y,t,c⟩:=N.out _ (i_ hlk)
  have a:∀j (u:Value),j<7->(cSg zs[k+1])[j]? =some u->wr.cell? ⟨g,l+(k+1)*7+j,none⟩=some u:=λj u hj hu=>by
   have:=HS.out.cell (j:=(k+1)*7+j) (u:=u) (by rw[aq cSg 7 (λ_=>rfl) zs (k+1) j hlk hj];exact hu);rw[J_];exact ae d.out this
  have d0:wr.cell? ⟨g,l+(k+1)*7,none⟩=some (.slice q zs[k+1].cl.length r):=a 0 _ (by decide) (by rw[<-b];rfl);have d1:=a 1 (I zs[k+1].x.fails) (by decide) rfl;have d2:=a 2 (I zs[k+1].x.by_) (by decide) rfl;have d3:=a 3 (.bool (zs[k+1].x.by_ !=0)) (by decide) rfl;have d4:=a 4 (I (cr zs[k+1].x.job)) (by decide) rfl;have d5:=a 5 (I zs[k+1].til) (by decide) rfl;have d6:=a 6 (.slice s y t) (by decide) (by rw[<-c];rfl)
  have H:Hid (cSg zs[k+1]=[.slice q zs[k+1].cl.length r,I zs[k+1].x.fails,I zs[k+1].x.by_,.bool (zs[k+1].x.by_ !=0),I (cr zs[k+1].x.job),I zs[k+1].til,.slice s y t]):=by
   show _=_;rw[cSg,b,c]
  have A:Hid (m++(zs.drop 1).take (k+1)=(m++(zs.drop 1).take k)++[zs[k+1]]):=by
   show _=_;rw[g_ (show k<(zs.drop 1).length by rw[G_];omega),<-A_];simp
  have K:Hid ([zs[k+1]].flatMap cSg=cSg zs[k+1]):=by show _=_;simp
  have W:(m++(zs.drop 1).take k).length<=80:=by rw[a_,l_,G_];omega
  clear b c a;generalize zs[k+1].cl.length=x0 at *;generalize zs[k+1].x.fails=x1 at *;generalize zs[k+1].x.by_=G at *;generalize (G !=0)=x3 at *;generalize cr zs[k+1].x.job=x4 at *;generalize zs[k+1].til=x5 at *;generalize m++(zs.drop 1).take k=Y at *;have X:Hid (Y.length+1<=maxLen):=by show _<=_;unfold maxLen;omega
  have Z:Hid ((Y.length+1)*88<=140737488355328):=by show _<=_;omega
  have F:Hid (∀o,w.heap.size<=(wr.alloc o).heap.size):=λo=>by
   have:=d.out.size;show w.heap.size<=_;simp;omega
  have aj:(k:Int)+1<(zs.length:Int):=by omega
  go_wp2_with (at_builtin;refine wpList_append_own_at _ rfl (.tmp 36) (.tmp 44) _ rfl w.heap.size _ i0 _ 7 88 underlying160 hi C D E rfl (by decide) u4 _ _ rfl (p_ f.out _) ⟨wr.heap.size,0,none⟩ 1 1 [.slice q x0 r,I x1,I G,.bool x3,I x4,I x5,.slice s y t] rfl rfl (au wr _ _) (by simp[Value.oneCell']) X.out Z.out (F.out _) ?_;intro v3 w3 hown3 hg3 hnil3 hloc3)
  have p:w3.ownsRow w.heap.size 170 7 v3 (Y++[zs[k+1]]).length ((Y++[zs[k+1]]).flatMap cSg):=by
   rw[r_,a_,K.out,H.out];exact hown3
  have Q:=(d.out.alloc d.out.size _).grown hg3 (F.out _) (λj hj=>(f_ f.out j hj).1);refine⟨⟨k+1,by omega,by go_num,by rw[A.out];exact p,Q⟩,by simp[intOf];omega⟩
 have U:Hid ((zs.drop 1).take k=zs.drop 1):=m_ (by rw[G_];omega)
 have n:Hid (wr.ownsRow w.heap.size 170 7 u4 R.length (R.flatMap cSg)):=by
  have:=f.out;rw[U.out,<-HR.out] at this;exact this
 have J:=HB.out.later d.out;have ad:=J.fr 11;have L:=hd J;obtain⟨a4,c4,rfl⟩:=ag n.out;have af:¬((k:Int)+1<(zs.length:Int)):=by omega
 clear J f;go_wp2_with fail;refine be_ ⟨rfl,⟨_,L.out.set 11 _,t_ n.out (ah _ _ _ _) ?_⟩,?_⟩
 ·refine .inr λe=>?_;have h1:=(f_ n.out _ e).1;omega
 exact ai.trans (ai.of_below d.out) (ai.of_grown (ah _ _ _ _) (S:=λk=>k=nb) λk h=>by cases h;rfl) λk h=>.inl h
end
end Go.Proofs.YtgamgomepdfgdaaGreat
