import Derived.Lib.AppendZeros
import Derived.Lib.Overlaps
import Derived.Laws.IdiomCopy
import Derived.Test.YtgamgomepdfgdaaGreatAM06
set_option maxRecDepth 100000
set_option maxHeartbeats 8000000
namespace Go.Proofs.YtgamgomepdfgdaaGreat
open Go.RowKit Go.Proofs.Tryz
section
variable{k mb n0 yb:Nat}{S:Nat->Prop}{α:Type}
theorem vZ (c:Cfg)(x:Xt)(b t:Nat)(qv qv':Value)(sb n:Nat)(ov:Value):(aA c x b t qv sb n ov).setIfInBounds 9 qv'=aA c x b t qv' sb n ov:=rfl
theorem Aw (c:Cfg)(x:Xt)(b t:Nat)(qv:Value)(sb n:Nat)(ov ov':Value):((aA c x b t qv sb n ov).setIfInBounds 14 (I ((n:Int)+1))).setIfInBounds 15 ov'=aA c x b t qv sb (n+1) ov':=by
 simp[aA]
theorem Dp (c:Cfg)(x:Xt)(b t:Nat)(qv:Value)(sb n:Nat)(ov ov':Value):(aA c x b t qv sb n ov).setIfInBounds 15 ov'=aA c x b t qv sb n ov':=rfl
theorem Ax (id:Nat)(q:List Pw):(woP id q).map Prod.fst=(q.map Prod.fst).filter λc=>c.id !=id:=by
 rw[woP,List.filter_map];rfl
theorem wg {l:List α}(h:k<=l.length)(x:α):(l++[x]).drop k=l.drop k++[x]:=List.drop_append_of_le_length h
theorem Dq (id kind:Nat){c:Cfg}{s:Ts}{w:World}{q:List Pw}{sb:Nat}{qv ov:Value}{x:Xt}(h:bI w S yb mb n0 c s q sb qv ov x)(ho:s.outs.length<1048576000)(ha:s.acked<=s.outs.length):
 c_ 170 #[Px yb,I id,I kind] w λe w'=>e=.returned (.tuple #[])/\(∃ov',bI w' (aE S w) yb mb n0 c {s with outs:=s.outs++[(id,kind)]} q sb qv ov' x)/\ak w w' S [201,99]:=by
 refine(EN yb _ s.outs.length id kind ov _ _ w h.box rfl rfl h.outs.row (by omega) ho).mono ?_;rintro e w' ⟨rfl,b,d,j,l,m⟩;rw[Aw] at d
 have O:ak w w' S [201,99]:=ak.mk m λk hk e=>by
  rcases e with rfl|e
  ·exact⟨h.fy,_,by simp,h.box.ty⟩
  exact⟨h.outs.own k e,_,by simp,h.outs.row.ty e⟩
 obtain⟨n,o,f⟩:=h.rest;refine⟨rfl,⟨b,h.qs,?_,h.que.keptT O.k (aE.old w) (by decide) (by decide),O.sub h.sub (by decide),⟨?_,λk hk=>?_⟩,.inl h.fy,.inl h.fs,⟨n,o,f.keptT O.k (aE.old w) h.np rfl rfl rfl (b_ _) (by unfold jA dO;decide) (O.map f.map (by decide))⟩,h.nt⟩,O⟩
 ·show Bx w' yb _ (aA c x _ _ _ sb (s.outs++[(id,kind)]).length b);rw[a_];exact d
 ·show Sl w' _ 3 b ((s.outs++[(id,kind)]).length-s.acked) _;rw[wg ha,j2,G_,a_];have g:s.acked+(s.outs.length-s.acked)=s.outs.length:=by omega
  have i:s.outs.length+[(id,kind)].length-s.acked=s.outs.length-s.acked+1:=by simp only[List.length_singleton];omega
  rw[g,i];exact j
 rcases l with e|⟨p,e,a⟩
 ·rw[e] at hk;exact .inl (h.outs.own k hk)
 rw[e] at hk;cases hk;exact .inr a
theorem v7 (S:Nat->Prop)(yb mb n0 id:Nat)(c:Cfg)(s:Ts)(w:World)(hY:aJ w S yb mb n0 c s)(hn:s.queue.length<=16)(hex:∃x∈s.queue,x.id=id)(ho:s.outs.length<1048576000)(ha:s.acked<=s.outs.length):
 c_ 116 #[Px yb,I id] w λe w'=>e=.returned (.tuple #[])/\aJ w' (aE S w) yb mb n0 c {s with queue:=s.queue.filter λc=>c.id !=id,outs:=s.outs++[(id,4)]}/\ai w w' S:=by
 obtain⟨q,E,qv,D,x,h,C⟩:=hY;have A:=h.qlen
 have z:0<q.length:=by
  obtain⟨x,C,_⟩:=hex;rw[A];exact List.length_pos_of_mem C
 obtain⟨g,b,a,rfl,ac,aa⟩:=h.que.row.addr z;have j:=hd h;have U:=hd C;have ad:=h.box.lt;have ab:g<w.heap.size:=h.que.row.lt rfl;have u:g≠yb:=λe=>h.que.row.ne h.box (by decide) (by rw[e];rfl);have X:=(h.box.mk (.cells #[I id] 3)).cell (i:=9) rfl;have O:=te q c.age id g b a w.heap.size (w.alloc (.cells #[I id] 3)) (h.que.row.mk _) h.sl (by simp) (by omega) (by omega);have P:=λW (S':Nat->Prop) q' qv' s' (hW:bI W S' yb mb n0 c s' q' E qv' D x) (e1:s'.outs=s.outs) (e2:s'.acked=s.acked)=>Dq id 4 hW (by rw[e1];exact ho) (by rw[e1,e2];exact ha);have H:Hid _:=P;clear h C A hex P;go_enter func116,ntmps116;go_upto_region 2 with fail;go_fit O;rintro e f ⟨rfl,t,d⟩;have h:=j.out;have B:Bx f yb 201 (aA c x s.begun s.now (s_ g b q.length a) E s.outs.length D):=(h.box.mk _).grown d (by simpa using u.symm);have m:=hd B;have Z:=B.fr 9;have Y:=B.cell (i:=9) rfl;have L:f.cell? ⟨w.heap.size,0,none⟩=some (I id):=K_ d (v:=I id) (by simp) (by simp;omega);have ae:yb≠w.heap.size:=by omega
 have r:=hd t;have o:Hid (w.grownBy f (some g)):=(v_ _ _ _).trans d;clear h O B t d X;go_upto_region 2 with fail
 have G:Bx (f.setCell ⟨yb,9,none⟩ (s_ g b (woP id q).length a)) yb 201 (aA c x s.begun s.now (s_ g b (woP id q).length a) E s.outs.length D):=by
  have:=m.out.set 9 (s_ g b (woP id q).length a);rwa [vZ] at this
 have l:ak w (f.setCell ⟨yb,9,none⟩ (s_ g b (woP id q).length a)) S [201,193]:=ak.mk ((ai.of_grown o.out (S:=λk=>k=yb\/k=g) λk h=>by cases h;exact .inr rfl).set (.inl (.inl rfl))) λk hk e=>by
  rcases e with rfl|rfl
  ·exact⟨j.out.fy,_,by simp,j.out.box.ty⟩
  exact⟨j.out.que.fq _ rfl,_,by simp,j.out.que.row.ty rfl⟩
 have J:Hid (Sl (f.setCell ⟨yb,9,none⟩ (s_ g b (woP id q).length a)) 193 6 (s_ g b (woP id q).length a) (woP id q).length ((woP id q).flatMap (cP c.age))):=
  Sl.grown r.out (ah _ _ _ _) (λk hk e=>u (by cases hk;injection e with e;exact e.symm))
 have p:=hd l
 have K:Hid (bI (f.setCell ⟨yb,9,none⟩ (s_ g b (woP id q).length a)) (aE S w) yb mb n0 c {s with queue:=s.queue.filter λc=>c.id !=id} (woP id q) E (s_ g b (woP id q).length a) D x):=by
  have h:=j.out;obtain⟨tl,zs,Q⟩:=h.rest;exact⟨by rw[Ax];exact h.qs.filter _,G,⟨J.out,λy hy=>l.sl (h.que.eds y (Z_.1 hy).1) (by decide),λk hk=>.inl (h.que.fq k hk),λy hy k hk=>.inl (h.que.fe y (Z_.1 hy).1 k hk)⟩,l.sub h.sub (by decide),h.outs.keptT l.k (aE.old w) (by decide),.inl h.fy,.inl h.fs,⟨tl,zs,Q.keptT l.k (aE.old w) h.np rfl rfl rfl (b_ _) (by unfold jA dO;decide) (l.map Q.map (by decide))⟩,h.nt⟩
 have n:=H.out _ _ _ _ _ K.out rfl rfl
 have V:(f.setCell ⟨yb,9,none⟩ (s_ g b (woP id q).length a)).cell? ⟨w.heap.size,0,none⟩=some (I id):=by
  rw[H_ _ _ _ _ (by intro e;injection e with e;omega)];exact L
 generalize f.setCell ⟨yb,9,none⟩ (s_ g b (woP id q).length a)=W at *;clear H m r o G L Z Y K J l;go_wp2_with fail;go_fit n;rintro e w3 ⟨rfl,⟨o',M⟩,N⟩;have R:Hid _:=M;have T:Hid _:=N;clear M N n V;go_wp2_with fail;have F:w.heap.size<=W.heap.size:=p.out.size;have hn:=j.out.np;refine be_ ⟨rfl,⟨_,_,_,o',x,bI.mono R.out (aE.two F) hn,?_⟩,(ak.trans p.out T.out λk hk=>hk).only⟩;have:=U.out;simp only[a_,List.length_singleton];omega
variable{cs:Array Value}{xs:List Value}{cap i n off size:Nat}{e t:TypeId}{v' x0:Value}{W w:World}
theorem mT:(prog.info? 210).map (λi=>(i.zero,i.size,i.bytes))=some (some (.pointer none),1,8):=by kernel_rfl
theorem oD (yb i n:Nat)(t:TypeId)(u v:Value)(a:Option Addr)(hu:u=.pointer a)(cs:Array Value)(xs:List Value)(w:World)(hB:Bx w yb t cs)(hv:cs[i]? =some v)(hS:Sl w 210 1 v (n+1) (u::xs)):
 c_ 206 #[.pointer (some ⟨yb,i,none⟩)] w λe w'=>e=.returned (.tuple #[u,.bool true])/\Bl w w':=by
 subst hu;obtain⟨g,b,c,rfl,f,d⟩:=hS.addr (by omega);have k:=hB.cell hv;have l:w.cell? ⟨g,b,none⟩=some (.pointer a):=hS.cell (j:=0) rfl;have h:((n:Int)+1==0)=false:=by simp;omega
 clear hB hS;go_enter func206,ntmps206;go_wp2;refine bodyPost_ret (by simp[results,results206,go_sem];rfl) rfl ⟨by rfl,?_⟩;exact n_ _ _
theorem oE (yb i:Nat)(t:TypeId)(v:Value)(cs:Array Value)(w:World)(hB:Bx w yb t cs)(hv:cs[i]? =some v)(hS:Sl w 210 1 v 0 []):
 c_ 206 #[.pointer (some ⟨yb,i,none⟩)] w λe w'=>e=.returned (.tuple #[.pointer none,.bool false])/\Bl w w':=by
 obtain⟨a,b,rfl⟩:=hS.form;have c:=hB.cell hv;clear hB hS;go_enter func206,ntmps206;go_wp2;refine bodyPost_ret (by simp[results,results206,go_sem];rfl) rfl ⟨by rfl,?_⟩;exact n_ _ _
theorem rf {g:Nat}(h:Sl w e 1 (s_ g off (n+1) cap) (n+1) (x0::xs))(z0:Value):
 Sl (w.setCell ⟨g,off,none⟩ z0) e 1 (s_ g (if cap-1=0 then off else off+1) n (cap-1)) n xs:=by
 have a:=h.set 0 z0;have b:=a.tail (k:=1) (by omega) (off':=off+1) (.inl (by omega));simpa using b
theorem lH {g:Nat}(hB:Bx w yb t cs)(hS:Sl W e size v' n xs)(hg:w.grownBy W (some g))(hne:g≠yb)(hv:v'.ownBlock=some g):
 Bx (W.setCell ⟨yb,i,none⟩ v') yb t (cs.setIfInBounds i v')/\Sl (W.setCell ⟨yb,i,none⟩ v') e size v' n xs/\ai w (W.setCell ⟨yb,i,none⟩ v') (λk=>k=yb\/some g=some k):=by
 refine⟨(hB.grown hg (by simpa using hne.symm)).set i v',hS.grown (ah _ _ _ _) (λk hk e=>?_),?_⟩
 ·rw[hv] at hk;cases hk;cases e;exact hne rfl
 exact ai.trans (ai.of_grown hg λk h=>.inr h) (S':=λk=>k=yb) (ai.of_grown (ah W yb i v') (S:=λk=>k=yb) λk h=>by cases h;rfl) λk h=>.inl (.inl h)
theorem AH (yb i n:Nat)(t:TypeId)(v u:Value)(cs:Array Value)(xs:List Value)(w:World)(hB:Bx w yb t cs)(hv:cs[i]? =some v)(hS:Sl w 210 1 v (n+1) (u::xs))(hne:v.ownBlock≠some yb):
 c_ 244 #[.pointer (some ⟨yb,i,none⟩)] w λe w'=>e=.returned (.tuple #[])/\∃v',Bx w' yb t (cs.setIfInBounds i v')/\Sl w' 210 1 v' n xs/\v'.ownBlock=v.ownBlock/\ai w w' (λk=>k=yb\/v.ownBlock=some k):=by
 obtain⟨g,c,d,rfl,r,p⟩:=hS.addr (by omega);have x:=hB.cell hv;have z:=hB.fr i;have y:w.cell? ⟨g,c,none⟩=some u:=hS.cell (j:=0) rfl;have A:=hS.fr c;have q:((n:Int)+1==0)=false:=by simp;omega
 have b:g≠yb:=λe=>hne (by rw[e];rfl);have s:yb≠g:=b.symm;have f:=hd hB;have l:=hd hS;clear hB hS;go_enter func244,ntmps244;go_wp2_with fail
 ·subst h;have a:=lH (i:=i) f.out (rf l.out (.pointer none)) (ah _ _ _ _) b rfl;exact be_ ⟨rfl,_,a.1,a.2.1,rfl,a.2.2⟩
 have o:¬d-1=0:=by omega
 have m:=rf l.out (.pointer none);rw[if_neg o] at m;have a:=lH (i:=i) f.out m (ah _ _ _ _) b rfl;exact be_ ⟨rfl,_,a.1,a.2.1,rfl,a.2.2⟩
theorem Ck (yb i n:Nat)(t:TypeId)(a0:Option Addr)(v:Value)(cs:Array Value)(xs:List Value)(w:World)(hB:Bx w yb t cs)(hv:cs[i]? =some v)(hS:Sl w 210 1 v n xs)(hne:v.ownBlock≠some yb)(hn:n<1048576000):
 c_ 240 #[.pointer (some ⟨yb,i,none⟩),.pointer a0] w λe w'=>e=.returned (.tuple #[])/\∃v',Bx w' yb t (cs.setIfInBounds i v')/\Sl w' 210 1 v' (n+1) (xs++[.pointer a0])/\(v'.ownBlock=v.ownBlock\/∃g,v'.ownBlock=some g/\w.heap.size<=g)/\ai w w' (λk=>k=yb\/v.ownBlock=some k):=by
 obtain⟨C,A,f,j,l⟩:=info_parts mT;obtain⟨o,a,rfl⟩:=hS.form;have D:Hid (n+1<=maxLen):=by show _<=_;unfold maxLen;omega
 have E:Hid ((n+1)*8<=140737488355328):=e_ (u_ 8 (show n+1<=1048576000 by omega)) (by decide);have s:=hd hB;have u:=hd hS;have B:=hB.lt;have y:=hB.cell hv;clear hB hS;go_enter func240,ntmps240;go_wp2_with (at_builtin;refine cH _ rfl _ _ 195 rfl _ C _ 1 8 underlying195 A f j l rfl (by decide) (.slice o n a) _ _ rfl (Sl.mk u.out _) ⟨w.heap.size,0,none⟩ 1 1 [.pointer a0] rfl rfl (au w _ _) (by simp[Value.oneCell']) D.out E.out ?_;intro v3 w3 hown3 hg3 hloc3;obtain⟨c,d,rfl⟩:=hown3.form;have b:Hid (Bx w3 yb t cs):=Bx.grown (s.out.mk _) hg3 (λe=>hne e.symm);have z:=b.out.cell hv;have F:=b.out.fr i;have x:=hd hown3;have r:Hid (w.grownBy w3 (Value.slice o n a).ownBlock):=(v_ w _ _).trans ⟨hg3.os,hg3.tape,hg3.output,hg3.size,hg3.block⟩;have p:Hid ((Value.slice c (n+1) d).ownBlock=(Value.slice o n a).ownBlock\/∃g,(Value.slice c (n+1) d).ownBlock=some g/\w.heap.size<=g):=hloc3.imp (λh=>h) (λ⟨g,h,hle⟩=>⟨g,h,e_ (by simp) hle⟩);clear hown3 hg3 hloc3)
 all_goals
  have m:(Value.slice c (n+1) d).ownBlock≠some yb:=by
   rcases p.out with h|⟨g,h,q⟩
   ·rw[h];exact hne
   rw[h];intro e;cases e;omega
  refine be_ ⟨rfl,_,b.out.set i _,Sl.grown x.out (ah _ _ _ _) (λg q e=>m (by rw[q];exact e.symm)),p.out,?_⟩;exact ai.trans (ai.of_grown r.out λk h=>.inr h) (ai.of_grown (ah _ _ _ _) (S:=λk=>k=yb) λk h=>by cases h;rfl) λk h=>.inl (.inl h)
end
section
open Go.Lib
variable{a:Act}{ops:Array Oper}{P:Program}{E:Prop}{w:World}
theorem iH (w:World)(t tn ty e:TypeId)(i:TypeInfo)(z:Value)(k kn:IntKind)(ht:P.underlying t=some (.slice e))(htn:P.underlying tn=some (.int kn))(hi:P.info? e=some i)(hz:i.zero=some z)(base:Option Addr)(c n:Nat)(hc:c<n)(hs:0<i.size)(h63:(n:Int)<=9223372036854775807)(h48:n*i.bytes<=140737488355328):
 (Builtin.append_ #[t,tn] ty #[.slice base 0 c,.int k n]).run P w=
  .ok (s_ (w.heap.size) 0 n (grownCap w n c e)) (w.drew.alloc (.cells (Builtin.zeroCells z.cells n++Builtin.zeroCells z.cells (grownCap w n c e-n)) e)):=by
 have m:n≠0:=by omega
 have o:IntKind.i64.wrap (n:Int)=n:=by rw[IntKind.wrap_i64];omega
 have d:¬(9223372036854775807<(n:Int)):=by omega
 have a:¬(281474976710656<Builtin.nextslicecap n c*i.bytes):=by
  have:=growslice_fits hc h48;omega
 have b:¬(281474976710656<(n:Int)*(i.bytes:Int)):=by
  rw[<-Int.natCast_mul];omega
 have f:¬((n:Int)<0):=by omega
 have h:¬(n*i.size=0):=Nat.mul_ne_zero m (by omega);have g:¬n<=c:=by omega
 have j:∀W:World,(Builtin.firstCells i.size 0 (.slice base 0 c)).run P W=.ok #[] W:=λW=>by
  have l:∀x:Addr,(loadCells x 0).run P W=.ok #[] W:=λx=>by simpa using run_loadCells_list (P:=P) W x [] (by simp)
  cases base<;>simp[Builtin.firstCells,l]
 simp[Builtin.append_,run_underlying ht,run_underlying htn,sizeOf,typeInfo,zeroValue,hi,hz,asInt,asIntOf,o,f,h,d,a,b,g,Question.forced,j,newRow,grownCap]
structure xZ (w w':World)(g:Nat)(e:TypeId)(o:Nat)(vs:List Value)(cur cur':Array Value):Prop where
 row:w'.heap[g]? =some (.cells cur' e (0,0))
 size:cur'.size=cur.size
 inn:∀j u,vs[j]? =some u->cur'[o+j]? =some u
 out:∀k,(k<o\/o+vs.length<=k)->cur'[k]? =cur[k]?
 grown:w.grownBy w' (some g)
theorem gu (g:Nat)(e:TypeId):∀(vs:List Value) (o:Nat) (w:World) (cur:Array Value),w.heap[g]? =some (.cells cur e (0,0))->o+vs.length<=cur.size->∃cur',xZ w (w.setCells g o vs) g e o vs cur cur'
 |[],o,w,cur,h,_=>⟨cur,h,rfl,λj u hu=>by simp at hu,λ_ _=>rfl,World.grownBy.refl _ _⟩
 |v::vs,o,w,cur,h,hl=>by
  have h1:(w.setCell ⟨g,o,none⟩ v).heap[g]? =some (.cells (cur.setIfInBounds o v) e (0,0)):=by simp[World.setCell,Array.getElem?_modify,h]
  simp only[List.length_cons] at hl
  obtain⟨cur',b,c,d,a,f⟩:=gu g e vs (o+1) _ _ h1 (by simp;omega)
  refine⟨cur',b,by simpa using c,λj u hu=>?_,λk hk=>?_,(ah w g o v).trans f⟩
  ·cases j with
   |zero=>
    simp only[List.getElem?_cons_zero,Option.some.injEq] at hu
    subst hu
    rw[Nat.add_zero,a o (by omega),Array.getElem?_setIfInBounds]
    simp;omega
   |succ j=>
    rw[List.getElem?_cons_succ] at hu
    rw[show o+(j+1)=o+1+j by omega]
    exact d j u hu
  simp only[List.length_cons] at hk
  rw[a k (by omega),Array.getElem?_setIfInBounds_ne (by omega)]
theorem jp (w:World)(t ty elem:TypeId)(g o dLen dCap:Nat)(a:Addr)(m sCap:Nat)(cs:List Value)(cur:Array Value)(hu:P.underlying t=some (.slice elem))(hs:(P.info? elem).map (·.size)=some 1)(hl:cs.length=Nat.min m dLen)(hg:w.heap[g]? =some (.cells cur elem (0,0)))(hfit:o+cs.length<=cur.size)(hsrc:∀j v,cs[j]? =some v->w.cell? (a.add j)=some v)(h1:∀v∈cs,v.oneCell'=true):
 ∃w' cur',(Builtin.copy_ #[t,t] ty #[s_ g o dLen dCap,.slice (some a) m sCap]).run P w=.ok (goInt cs.length) w'/\xZ w w' g elem o cs cur cur':=by
 obtain⟨cur',h⟩:=gu g elem cs o w cur hg hfit;refine⟨_,cur',?_,h⟩
 exact run_copy_cells (P:=P) w t t ty elem g o dLen dCap a m sCap cs hu hs hl hsrc (λj hj=>by
  have:o+j<cur.size:=by omega
  simp[World.cell?,hg,this]) (λj _=>by simp[World.frozen?,hg]) h1
theorem gL (w:World){ops:Array Oper}{rest:List Oper}{o:Oper}{a:Act}{Q:Exit->Act->World->Prop}(hgd:o.guard=none)(d s:Operand)(t:TypeId)(ho:o.op=.call {callee:=.builtin .copy,args:=#[d,s],argTypes:=#[t,t]})(elem:TypeId)(hu:P.underlying t=some (.slice elem))(hs:(P.info? elem).map (·.size)=some 1)(g of dLen dCap:Nat)(ad:Addr)(m sCap:Nat)(cs:List Value)(cur:Array Value)(hd:a.eval d=s_ g of dLen dCap)(hsv:a.eval s=.slice (some ad) m sCap)(hl:cs.length=Nat.min m dLen)(hg:w.heap[g]? =some (.cells cur elem (0,0)))(hfit:of+cs.length<=cur.size)(hsrc:∀j v,cs[j]? =some v->w.cell? (ad.add j)=some v)(h1:∀v∈cs,v.oneCell'=true)(h:∀w' cur',xZ w w' g elem of cs cur cur'->wpList P ops Q rest (a.put o.dst (goInt cs.length)) w'):wpList P ops Q (o::rest) a w:=by
 refine wpList_plain hgd λK hK=>?_;obtain⟨w',cur',c,b⟩:=jp (P:=P) w t o.type elem g of dLen dCap ad m sCap cs cur hu hs hl hg hfit hsrc h1;unfold Oper.wp execOp;simp only[ho,resolve,invoke,builtin,Sem.run_bind,Sem.run_pure,Result.andThen_ok,List.map_toArray,C_,List.map_nil,hd,hsv,c];exact hK _ _ (h w' cur' b)
theorem iO {o:Oper}{K:Act->World->Prop}{Q:Exit->Act->World->Prop}(hgd:o.guard=none)(d s:Operand)(t:TypeId)(ho:o.op=.call {callee:=.builtin .copy,args:=#[d,s],argTypes:=#[t,t]})(elem:TypeId)(hu:P.underlying t=some (.slice elem))(hs:(P.info? elem).map (·.size)=some 1)(g of dLen dCap:Nat)(ad:Addr)(m sCap:Nat)(cs:List Value)(cur:Array Value)(hd:a.eval d=s_ g of dLen dCap)(hsv:a.eval s=.slice (some ad) m sCap)(hl:cs.length=Nat.min m dLen)(hg:w.heap[g]? =some (.cells cur elem (0,0)))(hfit:of+cs.length<=cur.size)(hsrc:∀j v,cs[j]? =some v->w.cell? (ad.add j)=some v)(h1:∀v∈cs,v.oneCell'=true)(hK:∀w' cur',xZ w w' g elem of cs cur cur'->K (a.put o.dst (goInt cs.length)) w'):if Region.wanted o (yielded ops a.tmps)=true then Oper.wp P o a w K Q else E:=by
 have e:Region.wanted o (yielded ops a.tmps)=true:=by simp[Region.wanted,hgd]
 rw[if_pos e];obtain⟨w',cur',c,b⟩:=jp (P:=P) w t o.type elem g of dLen dCap ad m sCap cs cur hu hs hl hg hfit hsrc h1;unfold Oper.wp execOp;simp only[ho,resolve,invoke,builtin,Sem.run_bind,Sem.run_pure,Result.andThen_ok,List.map_toArray,C_,List.map_nil,hd,hsv,c];exact hK w' cur' b
end
section
variable{g:ByteArray->ByteArray}{es:List Ed}{N:Nat}{v v':Value}{w:World}
theorem cu.to (h:cu w N v g)(he:iS w es v')(hok:bT es)(hn:(N+104)*32<=140737488355328):
 c_ 247 #[v,v'] w λe w'=>((dX g es=true/\∃u,e=.returned (.tuple #[u,.bool true])/\cu w' (N+4) u (ck g es))\/(dX g es=false/\e=.returned (.tuple #[Zn,.bool false])))/\Bl w w':=by
 obtain⟨m,o,j,r,l⟩:=h;have i:=funext j.2.2;refine(rQ m es v v' w (ay.of_sl o) (aH.of_sl he) (e_ (u_ 32 (by omega)) hn) ⟨l,j.1.apart⟩ hok).mono ?_;rintro e w' ⟨n,p⟩;refine⟨?_,p⟩;rcases n with ⟨a,q,u,rfl,c,_,k,b,f⟩|⟨d,rfl⟩
 ·rw[i] at a c;exact .inl ⟨(i7 g es).2 a,u,rfl,q,Sl.of_row f,c,by omega,wQ l hok (by rw[i];exact c) j.1.apart⟩
 rw[i] at d;refine .inr ⟨?_,rfl⟩;cases h:dX g es
 ·rfl
 exact absurd ((i7 g es).1 h) d
theorem jM (cl:List Rd)(l:List Cg)(fv lv:Value)(g:ByteArray->ByteArray)(N:Nat)(w:World)(hf:cu w N fv g)(hfst:cl.map Prod.fst=l)(hS:Sl w 165 4 lv cl.length ((cl.map wOf).flatMap cW))(he:∀y∈cl,iS w y.1.2 y.2.2.2)(hok:∀y∈l,bT y.2)(hn:(N+4*l.length+104)*32<=140737488355328)(hl:l.length<=8):
 c_ 217 #[fv,lv] w λe w'=>(∃u,e=.returned (.tuple #[u,I (aB g l).2])/\cu w' (N+4*l.length) u (aB g l).1)/\Bl w w':=by
 have f:cl.length=l.length:=by rw[<-hfst,d_]
 obtain⟨la,S,rfl⟩:=hS.form;have T:=hd hf;have P:=hd hS;have L:=hd he;have M:Hid (cl.map Prod.fst=l/\∀y∈l,bT y.2):=⟨hfst,hok⟩;have U:=hd hn;have c:=hd f;have aa:cl.length<=8:=by omega
 obtain⟨fa,fn,Q,rfl⟩:=hf.form;clear hf hS he hok hn hfst f hl;go_enter func217,ntmps217;go_wp2_with fail;go_loopw [0,6,7,8] (λfv' iv _ _ wr=>∃k:Nat,k<=cl.length/\iv=I k/\bD fv'/\Hid (cu wr (N+4*k) fv' (after g (l.take k)))/\Hid ((aB g (l.take k)).2=k)/\Hid (Bl w wr)) (λ_ i _ _ _=>cl.length-(intOf i).toNat)
 case atStart=>exact⟨0,k_ _,rfl,⟨_,_,_,rfl⟩,by simpa[after] using T,by simp[aB,Hid],n_ _ _⟩
 obtain⟨k,hk,rfl,⟨W,Y,X,rfl⟩,v,q,r⟩:=hrel;by_cases hlk:k<cl.length
 ·have A:k<(cl.map wOf).length:=by rw[d_];exact hlk
  have p:k<l.length:=by rw[<-c.out];exact hlk
  have b:l[k]=cl[k].1:=by simp only[<-M.out.1];simp
  obtain⟨Z,K,V,hv,_⟩:=P.out.addr (by omega);cases hv
  obtain⟨E,G,F,m⟩:=(L.out _ (i_ hlk)).form
  have d3:wr.cell? ⟨Z,K+k*4+3,none⟩=some (.slice E G F):=by
   have:=P.out.cell (j:=k*4+3) (u:=.slice E G F) (by
    rw[aq cW 4 (λ_=>rfl) (cl.map wOf) k 3 A (by decide),<-m];simp[cW,wOf])
   rw[<-J_] at this;exact ae r.out this
  have D:=cu.to (es:=cl[k].1.2) (v':=.slice E G F) v.out (by rw[<-m];exact(L.out _ (i_ hlk)).later r.out) (by rw[<-b];exact M.out.2 _ (i_ p)) (e_ (u_ 32 (show N+4*k+104<=N+4*l.length+104 by omega)) U.out);have d:Hid (l.take (k+1)=l.take k++[l[k]]/\l=l.take k++l[k]::l.drop (k+1)/\(l.take k).length=k):=⟨g_ p,by rw[<-M_ p,X_],by rw[l_];omega⟩;rw[<-b] at D;clear m;generalize l[k]=x at *;obtain⟨C,o⟩:∃C,C=after g (l.take k):=⟨_,rfl⟩;rw[<-o] at D;have B:=hd o;clear o b A;go_wp2_with fail;go_fit D;rintro e w1 ⟨hR,h⟩;have t:=hd (r.out.trans (h.mono r.out.size));have H:=hd (v.out.later h);clear D h;rcases hR with ⟨a,u,rfl,n⟩|⟨a,rfl⟩
  ·have s:Hid (dX C x.2=true/\cu w1 (N+4*k+4) u (ck C x.2)):=⟨a,n⟩;obtain⟨ua,un,uc,rfl⟩:=n.form;clear a n v r;go_wp2_with fail;refine⟨⟨k+1,hlk,by go_num,⟨_,_,_,rfl⟩,?_,?_,t.out⟩,by simp[intOf];omega⟩
   ·show cu _ _ _ _;rw[d.out.1,mG,<-B.out];exact s.out.2
   show (aB g _).2=_;have:=fN (l.take k) g x (by rw[q.out,d.out.2.2]) (by rw[<-B.out];exact s.out.1);rw[d.out.1,this,d.out.2.2]
  have s:=hd a;clear a;go_wp2_with fail;have J:=gt (l.take k) g x (l.drop (k+1)) (by rw[q.out,d.out.2.2]) (by rw[<-B.out];exact s.out);have R:=kx (l.take k) g x (l.drop (k+1)) (by rw[q.out,d.out.2.2]) (by rw[<-B.out];exact s.out);rw[<-d.out.2.1] at J R;rw[d.out.2.2] at J;go_ret2;exact⟨⟨_,by rw[J];rfl,by rw[R];exact H.out.kept (λ_ _=>rfl) (by omega)⟩,t.out⟩
 obtain rfl:k=cl.length:=by omega
 have z:l.take cl.length=l:=m_ (by rw[c.out];exact b_ _);rw[z] at v q;have O:=hd q;clear z q;go_wp2_with fail;go_ret2;exact⟨⟨_,by rw[O.out];rfl,by rw[kM l g (by rw[O.out,c.out])];exact v.out.kept (λ_ _=>rfl) (by rw[c.out];exact b_ _)⟩,r.out⟩
section
open Go.Lib
variable{u:Value}
theorem oU (g o j:Nat):(⟨g,o,none⟩:Addr).add j=⟨g,o+j,none⟩:=by
 unfold Addr.add;by_cases h:j=0
 ·subst h;simp
 simp[h]
theorem mU {bv:Nat}(h:w.cell? ⟨bv,0,none⟩=some u):∀j v,[u][j]? =some v->w.cell? ((⟨bv,0,none⟩:Addr).add j)=some v:=λj v hv=>by
 cases j with
 |zero=>
  simp only[List.getElem?_cons_zero,Option.some.injEq] at hv
  subst hv
  exact h
 |succ j=>simp at hv
theorem x9 (a x:Option Addr)(cap bv:Nat)(w:World)(hS:Sl w 210 1 (.slice a 0 cap) 0 [])(hv:w.cell? ⟨bv,0,none⟩=some (.pointer x)):
 c_ 266 #[.slice a 0 cap,I 0,s_ bv 0 1 1] w λe w'=>∃v',e=.returned v'/\Sl w' 210 1 v' 1 [.pointer x]/\w.grownBy w' (Value.slice a 0 cap).ownBlock/\(v'.ownBlock=(Value.slice a 0 cap).ownBlock\/∃g,v'.ownBlock=some g/\w.heap.size<=g):=by
 obtain⟨m,l,b,c,d⟩:=info_parts mT;have h:=hd hS;have i:=hd hv;clear hS hv;go_enter func266,ntmps266;go_wp2_with (at_builtin;refine cH _ rfl _ _ 195 rfl _ m _ 1 8 underlying195 l b c d rfl (by decide) (.slice a 0 cap) 0 [] rfl h.out ⟨bv,0,none⟩ 1 1 [.pointer x] rfl rfl (mU i.out) (by simp[Value.oneCell']) (by unfold maxLen;omega) (by omega) ?_;intro v3 w3 hown3 hg3 hloc3;obtain⟨n,o,rfl⟩:=hown3.form;have k:=hd hown3;have f:Hid _:=hg3;have j:Hid _:=hloc3;clear hown3 hg3 hloc3);go_ret;exact⟨_,rfl,k.out,f.out,j.out⟩
theorem x8 (x:Option Addr)(g off n cap bv:Nat)(xs:List Value)(w:World)(hS:Sl w 210 1 (s_ g off n cap) n xs)(hx:∀v∈xs,v.oneCell'=true)(hn:0<n)(hc:n+1<=cap)(hv:Bx w bv 210 #[.pointer x])(hne:bv≠g):
 c_ 266 #[s_ g off n cap,I 0,s_ bv 0 1 1] w λe w'=>e=.returned (s_ g off (n+1) cap)/\Sl w' 210 1 (s_ g off (n+1) cap) (n+1) (.pointer x::xs)/\w.grownBy w' (some g):=by
 obtain⟨b,q,y,o,p,z⟩:=hS.row;have c:xs.length=n:=by simpa using hS.1
 unfold maxLen at o;have F:=hd hx;have t:=hd q;have E:=hd hv;have A:=hd z;have r:=hd p
 have d:Hid (((prog.info? 210).map (·.size))=some 1):=by
  show _=_;kernel_rfl
 have h:(Extern.SlicesOverlaps.overlaps #[195,195] #[4] #[s_ bv 0 1 1,s_ g (off+1) n (cap-1)]).run prog w=.ok (.bool false) w:=by
  refine run_overlaps_apart (P:=prog) w 195 4 210 underlying195 1 (λW=>Tryz.sizeOf210 W) ⟨bv,0,none⟩ ⟨g,off+1,none⟩ 1 1 n (cap-1) hne 210 210 1 b.size ?_ ?_ (by omega) (hv.fr 0) (hv.fr 1)
  ·unfold Bx at hv;simp[World.shape?,hv]
  simp[World.shape?,q]
 have G:¬((cap:Int)<(n:Int)+1):=by omega
 have L:IntKind.i64.wrap 1=1:=wrap_i64 (by omega) (by omega);have J:(1:Int)<=(n:Int)+1:=by omega
 have K:¬cap=1:=by omega
 have H:(0:Int)<=(n:Int)+1:=by omega
 have C:Hid (xs.length=Nat.min (n+1) n):=by
  show _=_;rw[c];exact(Nat.min_eq_right (by omega)).symm
 have s:Hid (off+1+xs.length<=b.size):=by
  have:=r.out;show _<=_;omega
 have D:Hid ([Value.pointer x].length=Nat.min 1 (n+1)):=by
  show 1=_;exact(U_ (by omega)).symm
 have B:Hid (∀j v,xs[j]? =some v->w.drew.cell? ((⟨g,off,none⟩:Addr).add j)=some v):=λj v hj=>by
  rw[oU,kI];have:=A.out j v hj;simp[World.cell?,t.out,this]
 have m:=hd c;clear hS hx q hv z p c;go_enter func266,ntmps266;go_wp2_with fail;rw[run_callFunc_extern func275 (by kernel_rfl) (by kernel_rfl) (by kernel_rfl) (e:=Extern.SlicesOverlaps.overlaps #[195,195] #[4]) (by kernel_rfl),h];simp only[Result.andThen];rw[Oper.upon_value];clear h;go_wp2_with fail;go_region_law ((first|(refine iO rfl _ _ 195 rfl 210 underlying195 d.out g (off+1) n (cap-1) ⟨g,off,none⟩ (n+1) cap xs b (by simp[Act.eval,Act.put]) (by simp[Act.eval,Act.put]) C.out t.out s.out B.out F.out ?_;intro w3 cur3 hO3;have a:=hd hO3;clear hO3)|fail))
 all_goals
  have l:=hd (((show Bx w.drew bv 210 #[.pointer x] from E.out).grown a.out.grown (by simpa using hne)).cell (i:=0) rfl)
  have k:Hid (off+[Value.pointer x].length<=cur3.size):=by
   have y:=s.out;have o:=a.out.size;show off+1<=_;omega
  go_wp2_with (refine gL _ rfl _ _ 195 rfl 210 underlying195 d.out g off (n+1) cap ⟨bv,0,none⟩ 1 1 [.pointer x] cur3 (by simp[Act.eval]) (by simp[Act.eval]) D.out a.out.row k.out (mU l.out) (by simp[Value.oneCell']) ?_;intro w4 cur4 hO4;have f:=hd hO4;clear hO4);go_ret;refine⟨rfl,⟨by rw[List.length_cons,m.out,Nat.mul_one],.inr ⟨g,off,cap,cur4,rfl,f.out.row,hc,by unfold maxLen;omega,?_,λj u hu=>?_⟩⟩,?_⟩
  ·have y:=f.out.size;have o:=a.out.size;have p:=r.out;omega
  ·cases j with
   |zero=>exact f.out.inn 0 u hu
   |succ j=>
    rw[List.getElem?_cons_succ] at hu;rw[f.out.out (off+(j+1)) (.inr (by simp)),show off+(j+1)=off+1+j by omega];exact a.out.inn j u hu
  exact(⟨a.out.grown.os,a.out.grown.tape,a.out.grown.output,a.out.grown.size,a.out.grown.block⟩:w.grownBy w3 (some g)).trans f.out.grown
theorem x7 (x:Option Addr)(g off n cap bv:Nat)(xs:List Value)(w:World)(hS:Sl w 210 1 (s_ g off n cap) n xs)(hx:∀v∈xs,v.oneCell'=true)(hn:0<n)(hc:cap<n+1)(h8:n<1048576000)(hv:Bx w bv 210 #[.pointer x]):
 c_ 266 #[s_ g off n cap,I 0,s_ bv 0 1 1] w λe w'=>∃v',e=.returned v'/\Sl w' 210 1 v' (n+1) (.pointer x::xs)/\Bl w w'/\∃b,v'.ownBlock=some b/\w.heap.size<=b:=by
 obtain⟨T,R,A,S,B⟩:=info_parts mT;have h:xs.length=n:=by simpa using hS.1
 have L:=hd hx;have K:=hd hS;have E:=hd hv
 have l:Hid (((prog.info? 210).map (·.size))=some 1):=by
  show _=_;kernel_rfl
 have c:=λty=>iH (P:=prog) w 195 3 ty 210 T (.pointer none) .i64 .i64 underlying195 underlying3 R A (some ⟨g,off,none⟩) cap (n+1) hc (by omega) (by omega) (by rw[B];omega);have y:=grownCap_ge w (n+1) cap 210;have z:=grownCap_le_maxLen w (n+1) cap 210 (by unfold maxLen;omega)
 have F:(Builtin.zeroCells (Value.pointer none).cells (n+1)++Builtin.zeroCells (Value.pointer none).cells (grownCap w (n+1) cap 210-(n+1))).size=grownCap w (n+1) cap 210:=by
  simp[size_zeroCells,Value.cells];omega
 generalize grownCap w (n+1) cap 210=C at *;generalize Builtin.zeroCells (Value.pointer none).cells (n+1)++Builtin.zeroCells (Value.pointer none).cells (C-(n+1))=Z at *;have d:Hid (Bl w (w.alloc (.cells Z 210)).drew):=aw _ _;have r:Hid ((w.alloc (.cells Z 210)).drew.heap[w.heap.size]? =some (.cells Z 210 (0,0))):=Bx.new w Z 210;unfold maxLen at z;have m:=hd h;have t:=hd F;have D:=hd c;have U:(cap:Int)<(n:Int)+1:=by omega
 have Y:IntKind.i64.wrap 1=1:=wrap_i64 (by omega) (by omega);have W:(1:Int)<=(n:Int)+1:=by omega
 have V:(0:Int)<=(n:Int):=by omega
 have X:¬C=1:=by omega
 have J:Hid ([Value.pointer x].length=Nat.min 1 (n+1)):=by
  show 1=_;exact(U_ (by omega)).symm
 have H:Hid (xs.length=Nat.min n n):=by
  show _=_;rw[h];exact(Nat.min_self n).symm
 clear hS hx hv c h F;go_enter func266,ntmps266;go_upto_region 10 with (at_builtin;refine wpList_append_run _ rfl _ _ 195 3 rfl (s_ g off 0 cap) (I ((n+1:Nat):Int)) (by simp[Act.eval]) (by simp[Act.eval]) _ _ (D.out _) ?_);clear D;generalize (w.alloc (.cells Z 210)).drew=M at *;have s:Hid (M.cell? ⟨bv,0,none⟩=some (.pointer x)):=Bx.cell (i:=0) ((d.out.block bv E.out.lt).trans E.out) rfl
 have p:Hid (0+[Value.pointer x].length<=Z.size):=by
  have:=t.out;show 0+1<=_;omega
 go_wp2_with (refine gL _ rfl _ _ 195 rfl 210 underlying195 l.out w.heap.size 0 (n+1) C ⟨bv,0,none⟩ 1 1 [.pointer x] Z (by simp[Act.eval]) (by simp[Act.eval]) J.out r.out p.out (mU s.out) (by simp[Value.oneCell']) ?_;intro w3 cur3 hO3;have o:=hd hO3;clear hO3);have f:Hid (Bl w w3):=d.out.grown o.out.grown d.out.size (by intro k hk;cases hk;exact b_ _)
 have q:Hid (1+xs.length<=cur3.size):=by
  have N:=o.out.size;have O:=t.out;have Q:=m.out;show _<=_;omega
 have G:Hid (∀j v,xs[j]? =some v->w3.drew.cell? ((⟨g,off,none⟩:Addr).add j)=some v):=λj v hj=>by
  rw[oU,kI];exact(K.out.later f.out).cell hj
 go_region_law ((first|(refine iO rfl _ _ 195 rfl 210 underlying195 l.out w.heap.size 1 n (C-1) ⟨g,off,none⟩ n cap xs cur3 (by simp[Act.eval,Act.put]) (by simp[Act.eval,Act.put]) H.out o.out.row q.out G.out L.out ?_;intro w4 cur4 hO4;have a:=hd hO4;clear hO4)|fail))
 all_goals
  go_wp2_with fail;go_ret;refine⟨_,rfl,⟨by rw[List.length_cons,m.out,Nat.mul_one],.inr ⟨w.heap.size,0,C,cur4,rfl,a.out.row,y,by unfold maxLen;omega,?_,λj u hu=>?_⟩⟩,?_,w.heap.size,rfl,b_ _⟩
  ·have N:=a.out.size;have O:=o.out.size;have Q:=t.out;omega
  ·cases j with
   |zero=>
    rw[a.out.out (0+0) (.inl (by omega))];exact o.out.inn 0 u hu
   |succ j=>
    rw[List.getElem?_cons_succ] at hu;rw[show 0+(j+1)=1+j by omega];exact a.out.inn j u hu
  exact f.out.grown (⟨a.out.grown.os,a.out.grown.tape,a.out.grown.output,a.out.grown.size,a.out.grown.block⟩:w3.grownBy w4 (some w.heap.size)) f.out.size (by intro k hk;cases hk;exact b_ _)
end
section
open Go.Lib
variable{a:Act}{ops:Array Oper}{P:Program}{E:Prop}
theorem gM {o:Oper}{K:Act->World->Prop}{Q:Exit->Act->World->Prop}(hg:o.guard=none)(s x:Operand)(t:TypeId)(hop:o.op=Op.call {callee:=Callee.builtin Builtin.append,args:=#[s,x],argTypes:=#[t,t]})(e:TypeId)(i:TypeInfo)(size:Nat)(h1:P.underlying t=some (.slice e))(h2:P.info? e=some i)(h4:i.size=size)(b off n cap:Nat)(hs:a.eval s=s_ b off n cap)(ad:Addr)(m c:Nat)(aQ:List Value)(hx:a.eval x=.slice (some ad) m c)(hn:aQ.length=m*size)(hc:∀j u,aQ[j]? =some u->w.cell? (ad.add j)=some u)(h1c:∀u∈aQ,u.oneCell'=true)(hroom:n+m<=cap)(cur:Array Value)(hb:w.heap[b]? =some (.cells cur e (0,0)))(hfit:off+n*size+aQ.length<=cur.size)(hK:∀w' cur',xZ w w' b e (off+n*size) aQ cur cur'->K (a.put o.dst (s_ b off (n+m) cap)) w'):
 if Region.wanted o (yielded ops a.tmps)=true then Oper.wp P o a w K Q else E:=by
 obtain⟨cur',h⟩:=gu b e aQ (off+n*size) w cur hb hfit
 exact step_append_room hg s x t hop e i size h1 h2 h4 b off n cap hs ad m c aQ hx hn hc h1c hroom (λj hj=>by
  have:off+n*size+j<cur.size:=by omega
  exact⟨by simp[World.cell?,hb,this],by simp[World.frozen?,hb]⟩) (hK _ _ h)
theorem p8 (q:List Pw)(age k g off cap:Nat)(w:World)(hS:Sl w 193 6 (s_ g off q.length cap) q.length (q.flatMap (cP age)))(hsl:∀x∈q,bD x.2)(hk:0<k)(hkl:k<=q.length)(hn:q.length<=16):
 c_ 241 #[s_ g off q.length cap,I 0,I k] w λe w'=>e=.returned (s_ g off (q.length-k) cap)/\Sl w' 193 6 (s_ g off (q.length-k) cap) (q.length-k) ((q.drop k).flatMap (cP age))/\w.grownBy w' (some g):=by
 obtain⟨O,M,U,B,V⟩:=info_parts l8;obtain⟨r,c,Z,P,m,b⟩:=hS.row;unfold maxLen at P;have f:((q.drop k).flatMap (cP age)).length=(q.length-k)*6:=by rw[aR (cP age) 6 (λ_=>rfl),G_]
 have d:(q.flatMap (cP age)).drop (k*6)=(q.drop k).flatMap (cP age):=by
  conv=>lhs;rw[<-X_ k q,r_]
  rw[List.drop_left' (by rw[aR (cP age) 6 (λ_=>rfl),l_,U_ hkl])]
 have o:∀u∈(q.drop k).flatMap (cP age),u.oneCell'=true:=λu i=>by
  obtain⟨y,T,i⟩:=List.mem_flatMap.1 i;obtain⟨W,Y,X,S⟩:=hsl y (List.mem_of_mem_drop T);simp[cP,S] at i;rcases i with rfl|rfl|rfl|rfl|rfl|rfl<;>rfl
 have J:=hd c;have C:=hd m;have K:=hd o;have v:=hd f
 have l:Hid (off+0*6+((q.drop k).flatMap (cP age)).length<=r.size):=by
  show _<=_;omega
 have H:Hid (∀A:Nat,(A=off+k*6\/q.length-k=0)->∀j u,((q.drop k).flatMap (cP age))[j]? =some u->w.drew.cell? ((⟨g,A,none⟩:Addr).add j)=some u):=λA E j u s=>by
  have G:=(N_.1 s).1;rw[<-d,List.getElem?_drop] at s
  rw[show (⟨g,A,none⟩:Addr).add j=⟨g,A+j,none⟩ by
   unfold Addr.add;by_cases h:j=0
   ·subst h;simp
   simp[h],kI]
  have Q:=b _ u s;rcases E with rfl|E
  ·rw[J_];simp[World.cell?,c,Q]
  rw[f,E] at G;omega
 generalize (q.drop k).flatMap (cP age)=L at *;generalize q.length=n at *;have q1:¬((0:Int)=k):=by omega
 have q2:((0:Int)==(k:Int))=false:=by simp;omega
 have q3:(k:Int)<=n:=by omega
 have q4:(0:Int)<=k:=by omega
 have q5:(k:Int)≠0:=by omega
 have R:¬cap=0:=by omega
 have wk:IntKind.i64.wrap (k:Int)=k:=wrap_i64 (by omega) (by omega)
 have t:Hid (0+(n-k)<=cap):=by
  show _<=_;omega
 clear hS c m b f o d hsl;have N:¬cap-(n-k)=0:=by omega
 by_cases hcap:cap=k
 ·obtain rfl:n=k:=by omega
  subst hcap;go_enter func241,ntmps241;go_wp2_with fail;go_region_law ((first|(refine gM rfl _ _ 190 rfl 193 O 6 underlying190 M B g off 0 cap (by simp[Act.eval,Act.put]) ⟨g,off,none⟩ 0 0 L (by simp[Act.eval,Act.put]) (by simpa using v.out) (H.out _ (.inr (Nat.sub_self _))) K.out (by omega) r J.out l.out ?_;intro w3 cur3 hO3;have a:=hd hO3;clear hO3)|fail))
  all_goals
   have p:Hid (off+cap*6<=cur3.size):=by
    have z:=a.out.size;have D:=C.out;show _<=_;omega
   go_wp2_with (refine fk _ rfl _ _ rfl _ _ 6 underlying190 pP rfl (by simp[Value.cells,Value.oneCell']) g off cap cap hk (by simp[Act.eval]) cur3 a.out.row p.out ?_;intro w4 cur4 z D h5 h6);go_ret;refine⟨by simp,⟨v.out,.inr ⟨g,off,cap,cur4,by simp,z,by omega,by unfold maxLen;omega,?_,λj u i=>?_⟩⟩,?_⟩
   ·have:=a.out.size;have:=C.out;omega
   ·have s:=(N_.1 i).1;rw[v.out] at s;omega
   exact(⟨a.out.grown.os,a.out.grown.tape,a.out.grown.output,a.out.grown.size,a.out.grown.block⟩:w.grownBy w3 (some g)).trans h6
 have F:¬cap-k=0:=by omega
 go_enter func241,ntmps241;go_wp2_with fail;go_region_law ((first|(refine gM rfl _ _ 190 rfl 193 O 6 underlying190 M B g off 0 cap (by simp[Act.eval,Act.put]) ⟨g,off+k*6,none⟩ (n-k) (cap-k) L (by simp[Act.eval,Act.put]) v.out (H.out _ (.inl rfl)) K.out t.out r J.out l.out ?_;intro w3 cur3 hO3;have a:=hd hO3;clear hO3)|fail))
 all_goals
  have p:Hid (off+(n-k)*6+k*6<=cur3.size):=by
   have z:=a.out.size;have D:=C.out;show _<=_;omega
  go_wp2_with (refine fk _ rfl _ _ rfl _ _ 6 underlying190 pP rfl (by simp[Value.cells,Value.oneCell']) g (off+(n-k)*6) k (cap-(n-k)) hk (by simp[Act.eval];omega) cur3 a.out.row p.out ?_;intro w4 cur4 z D h5 h6);go_ret;refine⟨rfl,⟨v.out,.inr ⟨g,off,cap,cur4,rfl,z,by omega,by unfold maxLen;omega,?_,λj u i=>?_⟩⟩,?_⟩
  ·have:=a.out.size;have:=C.out;omega
  ·have s:=(N_.1 i).1;rw[v.out] at s;rw[h5 _ (by omega)];have:=a.out.inn j u i;rwa [Nat.zero_mul,Nat.add_zero] at this
  exact(⟨a.out.grown.os,a.out.grown.tape,a.out.grown.output,a.out.grown.size,a.out.grown.block⟩:w.grownBy w3 (some g)).trans h6
end
section
open Go.Lib
theorem AI (x:Option Addr)(v:Value)(n bv:Nat)(xs:List Value)(w:World)(hS:Sl w 210 1 v n xs)(hx:∀u∈xs,u.oneCell'=true)(h8:n<1048576000)(hv:Bx w bv 210 #[.pointer x])(hne:v.ownBlock≠some bv):
 c_ 266 #[v,I 0,s_ bv 0 1 1] w λe w'=>∃v',e=.returned v'/\Sl w' 210 1 v' (n+1) (.pointer x::xs)/\(v'.ownBlock=v.ownBlock\/∃g,v'.ownBlock=some g/\w.heap.size<=g)/\ai w w' (λk=>v.ownBlock=some k):=by
 by_cases h0:n=0
 ·subst h0;obtain⟨a,c,rfl⟩:=hS.form;obtain rfl:xs=[]:=I_ (by simpa using hS.1);refine(x9 a x c bv w hS (hv.cell (i:=0) rfl)).mono ?_;rintro e w' ⟨v',rfl,j,l,d⟩;exact⟨v',rfl,j,d,ai.of_grown l λk hk=>hk⟩
 obtain⟨g,f,c,rfl,j,l⟩:=hS.addr (by omega);by_cases hc:n+1<=c
 ·refine(x8 x g f n c bv xs w hS hx (by omega) hc hv (λe=>hne (by rw[e];rfl))).mono ?_;rintro e w' ⟨rfl,d,h⟩;exact⟨_,rfl,d,.inl rfl,ai.of_grown h λk hk=>hk⟩
 refine(x7 x g f n c bv xs w hS hx (by omega) (by omega) h8 hv).mono ?_;rintro e w' ⟨v',rfl,d,h,b,m,o⟩;exact⟨v',rfl,d,.inr ⟨b,m,o⟩,ai.of_below h⟩
theorem rh (yb i n:Nat)(t:TypeId)(v:Value)(x:Option Addr)(cs:Array Value)(xs:List Value)(w:World)(hB:Bx w yb t cs)(hv:cs[i]? =some v)(hS:Sl w 210 1 v n xs)(hx:∀u∈xs,u.oneCell'=true)(hne:v.ownBlock≠some yb)(hn:n<1048576000):
 c_ 245 #[.pointer (some ⟨yb,i,none⟩),.pointer x] w λe w'=>e=.returned (.tuple #[])/\∃v',Bx w' yb t (cs.setIfInBounds i v')/\Sl w' 210 1 v' (n+1) (.pointer x::xs)/\(v'.ownBlock=v.ownBlock\/∃g,v'.ownBlock=some g/\w.heap.size<=g)/\ai w w' (λk=>k=yb\/v.ownBlock=some k):=by
 have q:=AI x v n w.heap.size xs (w.alloc (.cells #[.pointer x] 210)) (hS.mk _) hx hn (Bx.new _ _ _) (λe=>by have:=hS.lt e;omega);obtain⟨A,b,rfl⟩:=hS.form;have y:=hd hB;have z:=hB.lt;have C:=hB.cell hv;clear hB hS hx;go_enter func245,ntmps245;go_wp2_with fail;go_fit q;rintro e B ⟨F,rfl,j,p,l⟩;obtain⟨d,f,rfl⟩:=j.form;have a:Hid (Bx B yb t cs):=(l.block yb (by simp;omega) hne).trans (y.out.mk _);have D:=a.out.cell hv;have E:=a.out.fr i;have r:=hd j;have o:Hid ((Value.slice d (n+1) f).ownBlock=(Value.slice A n b).ownBlock\/∃g,(Value.slice d (n+1) f).ownBlock=some g/\w.heap.size<=g):=p.imp (λh=>h) (λ⟨g,h,c⟩=>⟨g,h,by simp at c;omega⟩);have s:=hd ((ai.of_below (af w _)).trans l λk hk=>.inl hk);clear j p l q;go_wp2_with fail
 have m:(Value.slice d (n+1) f).ownBlock≠some yb:=by
  rcases o.out with h|⟨g,h,c⟩
  ·rw[h];exact hne
  rw[h];intro e;cases e;omega
 refine be_ ⟨rfl,_,a.out.set i _,r.out.grown (ah _ _ _ _) (λg c e=>m (by rw[c];exact e.symm)),o.out,?_⟩;exact(ai.mono s.out λk hk=>.inr hk).trans (ai.of_grown (ah _ _ _ _) (S:=λk=>k=yb) λk h=>by cases h;rfl) λk h=>.inl (.inl h)
end
variable{c:Cfg}{zs:List (Nat×Sm)}{cl:List Cw}{q:List Pw}{tl:List Tp}{cap mb n n0 off sb yb:Nat}{S T:Nat->Prop}{s:Ts}{cv ov qv:Value}{w':World}{x:Xt}
structure aU (w:World)(S:Nat->Prop)(yb mb n0:Nat)(c:Cfg)(s:Ts)(q:List Pw)(sb:Nat)(qv ov:Value)(x:Xt)(tl:List Tp)(zs:List (Nat×Sm)):Prop where
 is:bI w S yb mb n0 c s q sb qv ov x
 rest:ij w S mb n0 s x tl zs
theorem bI.z (h:bI w S yb mb n0 c s q sb qv ov x):∃tl zs,aU w S yb mb n0 c s q sb qv ov x tl zs:=by
 obtain⟨tl,zs,a⟩:=h.rest;exact⟨tl,zs,h,a⟩
theorem aU.mk' (hr:ij w S mb n0 s x tl zs)(qs:(q.map Prod.fst).Perm s.queue)(box:Bx w yb 201 (aA c x s.begun s.now qv sb s.outs.length ov))(que:QIs w S c.age q qv)(sub:dR w sb s.ids)(outs:OIs w S s.outs s.acked ov)(fy:S yb)(fs:S sb)(nt:sb≠x.tip):aU w S yb mb n0 c s q sb qv ov x tl zs:=
 ⟨⟨qs,box,que,sub,outs,fy,fs,⟨tl,zs,hr⟩,nt⟩,hr⟩
theorem aU.later (h:aU w S yb mb n0 c s q sb qv ov x tl zs)(hb:Bl w w'):aU w' S yb mb n0 c s q sb qv ov x tl zs:=
 ⟨h.is.later hb,h.rest.kept hb.size (λk hk _=>hb.block k hk) (λ_ h=>h) h.rest.nm rfl rfl rfl (b_ _)⟩
theorem aU.mono (h:aU w S yb mb n0 c s q sb qv ov x tl zs)(hST:∀k,S k->T k)(hn:¬T mb):aU w T yb mb n0 c s q sb qv ov x tl zs:=
 ⟨h.is.mono hST hn,h.rest.kept (b_ _) (λ_ _ _=>rfl) hST hn rfl rfl rfl (b_ _)⟩
theorem yf (id kind:Nat){c:Cfg}{s:Ts}{w:World}{q:List Pw}{sb:Nat}{qv ov:Value}{x:Xt}{tl:List Tp}{zs:List (Nat×Sm)}(h:aU w S yb mb n0 c s q sb qv ov x tl zs)(ho:s.outs.length<1048576000)(ha:s.acked<=s.outs.length):
 c_ 170 #[Px yb,I id,I kind] w λe w'=>e=.returned (.tuple #[])/\(∃ov',aU w' (aE S w) yb mb n0 c {s with outs:=s.outs++[(id,kind)]} q sb qv ov' x tl zs)/\ak w w' S [201,99]:=by
 refine(Dq id kind h.is ho ha).mono ?_;rintro e w' ⟨rfl,⟨ov',b⟩,a⟩;exact⟨rfl,⟨ov',b,h.rest.keptT a.k (aE.old w) h.is.np rfl rfl rfl (b_ _) (by unfold jA dO;decide) (a.map h.rest.map (by decide))⟩,a⟩
theorem BN (c:Cfg)(x:Xt)(b t:Nat)(qv:Value)(sb n:Nat)(ov tv':Value):(aA c x b t qv sb n ov).setIfInBounds 11 tv'=aA c {x with tv:=tv'} b t qv sb n ov:=rfl
theorem AJ (zs:List (Nat×Sm)):∀u∈zs.map (λz=>ptr z.1),u.oneCell'=true:=λu hu=>by
 obtain⟨z,_,rfl⟩:=q_.1 hu
 rfl
theorem p5 {z:Nat×Sm}(h:aU w S yb mb n0 c s q sb qv ov x tl (z::zs)):
 c_ 244 #[.pointer (some ⟨yb,11,none⟩)] w λe w'=>e=.returned (.tuple #[])/\(∃tv',aU w' S yb mb n0 c {s with segs:=zs.map Prod.snd} q sb qv ov {x with tv:=tv'} tl zs)/\ak w w' S [201,210]:=by
 have a:=h.rest.train.row;rw[List.length_cons,C_] at a;refine(AH yb 11 zs.length 201 x.tv _ _ _ w h.is.box rfl a (a.ne h.is.box (by decide))).mono ?_;rintro e w' ⟨rfl,tv',d,f,i,j⟩
 have O:ak w w' S [201,210]:=ak.mk j λk hk e=>by
  rcases e with rfl|e
  ·exact⟨h.is.fy,201,by simp,h.is.box.ty⟩
  exact⟨h.rest.train.own k e,210,by simp,a.ty e⟩
 rw[BN] at d;have b:=λ(k:Nat) (hk:S k)=>hk;refine⟨rfl,⟨tv',aU.mk' ⟨h.rest.nm,h_ h.rest.ml O.size,h.rest.tip,O.map h.rest.map (by decide),h.rest.main.keptT O.k b (by decide) (by decide),rfl,f,?_,?_,λy hy=>(h.rest.train.segs y (List.mem_cons_of_mem _ hy)).keptT O.k b (b_ _) (by decide) (by unfold dO;decide)⟩ h.is.qs d (h.is.que.keptT O.k b (by decide) (by decide)) (O.sub h.is.sub (by decide)) (h.is.outs.keptT O.k b (by decide)) h.is.fy h.is.fs h.is.nt⟩,O⟩
 ·intro g hg;rw[show ({x with tv:=tv'}:Xt).tv=tv' from rfl,i] at hg;exact h.rest.train.own g hg
 have:=h.rest.train.nd;rw[C_,List.nodup_cons] at this;exact this.2
theorem ye (h:aU w S yb mb n0 c s q sb qv ov x tl zs)(z:Nat×Sm)(hz:dt w S (s.top n0) z)(hn:z.1∉zs.map Prod.fst)(hl:zs.length<1048576000):
 c_ 245 #[.pointer (some ⟨yb,11,none⟩),Px z.1] w λe w'=>e=.returned (.tuple #[])/\(∃tv',aU w' (aE S w) yb mb n0 c {s with segs:=z.2::s.segs} q sb qv ov {x with tv:=tv'} tl (z::zs))/\ak w w' S [201,210]:=by
 have a:=h.rest.train.row;refine(rh yb 11 zs.length 201 x.tv (some ⟨z.1,0,none⟩) _ _ w h.is.box rfl a (AJ zs) (a.ne h.is.box (by decide)) hl).mono ?_;rintro e w' ⟨rfl,tv',i,j,l,m⟩
 have O:ak w w' S [201,210]:=ak.mk m λk hk e=>by
  rcases e with rfl|e
  ·exact⟨h.is.fy,201,by simp,h.is.box.ty⟩
  exact⟨h.rest.train.own k e,210,by simp,a.ty e⟩
 rw[BN] at i;have b:=aE.old (S:=S) w;refine⟨rfl,⟨tv',aU.mk' ⟨h.is.np,h_ h.rest.ml O.size,h.rest.tip.imp (λe=>e) .inl,O.map h.rest.map (by decide),h.rest.main.keptT O.k b (by decide) (by decide),?_,?_,?_,?_,λy f=>?_⟩ h.is.qs i (h.is.que.keptT O.k b (by decide) (by decide)) (O.sub h.is.sub (by decide)) (h.is.outs.keptT O.k b (by decide)) (.inl h.is.fy) (.inl h.is.fs) h.is.nt⟩,O⟩
 ·rw[C_,h.rest.train.snd]
 ·rw[List.length_cons,C_];exact j
 ·intro g hg;rcases l with e|⟨n,e,d⟩
  ·rw[show ({x with tv:=tv'}:Xt).tv=tv' from rfl,e] at hg;exact .inl (h.rest.train.own g hg)
  rw[show ({x with tv:=tv'}:Xt).tv=tv' from rfl,e] at hg;cases hg;exact .inr d
 ·rw[C_,List.nodup_cons];exact⟨hn,h.rest.train.nd⟩
 rcases R_.1 f with rfl|f
 ·exact hz.keptT O.k b (b_ _) (by decide) (by unfold dO;decide)
 exact(h.rest.train.segs y f).keptT O.k b (b_ _) (by decide) (by unfold dO;decide)
theorem dY.cut {a:Option Addr}{l:List Cg}(h:dY w S (.slice a n cap) l cl){k:Nat}(hk:k<=l.length):dY w S (.slice a k cap) (l.take k) (cl.take k):=by
 have f:cl.length=l.length:=by rw[<-h.fst,d_]
 obtain⟨c,d,e⟩:=h.row.form;cases e
 refine⟨by rw[<-h.fst,List.map_take],?_,λg hg=>h.own g (by cases a<;>first|exact hg|(simp[Value.ownBlock] at hg)),λy hy=>h.eds y (List.mem_of_mem_take hy)⟩;have:=h.row.cut (k:=k) (by omega);rw[l_,U_ (by omega)]
 have b:(cl.take k).flatMap cC=(cl.flatMap cC).take (k*2):=by
  conv=>rhs;rw[<-X_ k cl,r_]
  rw[List.take_left' (by rw[aR cC 2 (λ_=>rfl),l_,U_ (by omega)])]
 rw[b];exact this
theorem dY.tail {g:Nat}{l:List Cg}(h:dY w S (s_ g off n cap) l cl){k:Nat}(hk:k<=l.length){off':Nat}(ho:off'=off+k*2\/cap-k=0):dY w S (s_ g (if cap-k=0 then off else off') (n-k) (cap-k)) (l.drop k) (cl.drop k):=by
 have d:cl.length=l.length:=by rw[<-h.fst,d_]
 obtain⟨b,c,e⟩:=h.row.form;cases e
 refine⟨by rw[<-h.fst,List.map_drop],?_,λg' hg=>h.own g' hg,λy hy=>h.eds y (List.mem_of_mem_drop hy)⟩;have:=h.row.tail (k:=k) (by omega) ho;rw[G_]
 have a:(cl.drop k).flatMap cC=(cl.flatMap cC).drop (k*2):=by
  conv=>rhs;rw[<-X_ k cl,r_]
  rw[List.drop_left' (by rw[aR cC 2 (λ_=>rfl),l_,U_ (by omega)])]
 rw[a];exact this
theorem vk {l:List Cg}(h:dY w S cv l cl):dt (w.alloc (.cells (cz cv 0 0 (.pointer none)) 240)) (aE S w) N (w.heap.size,Sm.new l):=
 ⟨cv,.pointer none,cl,Bx.new _ _ _,h.keptT (ak.below (S:=S) (ts:=[]) (af w _)).k (aE.old w) (by decide) (by decide),rfl,.inr (b_ _)⟩
variable{p:Nat}{f:Sm}{w1 w2:World}
theorem Ts.conflict_cons (s:Ts)(f:Sm)(m:List Sm)(y:Cg)(l:List Cg)(h:f.l=y::l):s.conflict f m={s with outs:=s.outs++[(y.1,3)],segs:=fA l++m}:=by
 simp[Ts.conflict,h]
theorem aE.three (h1:w.heap.size<=w1.heap.size)(h2:w.heap.size<=w2.heap.size):∀k,aE (aE (aE S w) w1) w2 k->aE S w k:=λk a=>by
 rcases a with (a|a)|a
 ·exact a
 ·exact .inr (e_ h1 a)
 exact .inr (e_ h2 a)
theorem ww (h:aU w S yb mb n0 c s q sb qv ov x tl ((p,f)::zs))(hf:f.l≠[])(ho:s.outs.length<1048576000)(ha:s.acked<=s.outs.length)(hl:zs.length<1048576000):
 c_ 210 #[ptr yb,ptr p] w λe w'=>e=.returned (.tuple #[])/\(∃ov' tv' zs',aU w' (aE S w) yb mb n0 c (s.conflict f (zs.map Prod.snd)) q sb qv ov' {x with tv:=tv'} tl zs')/\ak w w' S [201,99,210]:=by
 obtain⟨y,l,B⟩:∃y l,f.l=y::l:=by
  cases hq:f.l with
  |nil=>exact absurd hq hf
  |cons y l=>exact⟨y,l,rfl⟩
 rw[Ts.conflict_cons s f _ y l B];obtain⟨cv,jv,cl,n⟩:=h.rest.train.segs (p,f) (by simp);have m:=n.chs.fst;rw[show (p,f).2.l=y::l from B] at m
 obtain⟨F,d,rfl,rfl,rfl⟩:∃F d,cl=F::d/\F.1=y/\d.map Prod.fst=l:=by
  cases cl with
  |nil=>simp at m
  |cons a b=>
   rw[C_,List.cons.injEq] at m;exact⟨a,b,rfl,m.1,m.2⟩
 obtain⟨g,t,o,rfl,ac,ab⟩:=n.chs.row.addr (by simp);have hE:=yf F.1.1 3 h ho ha;have HY:=hd h;have c0:=n.box.c 0 (s_ g t (d.length+1) o);have d0:w.cell? ⟨g,t,none⟩=some (I F.1.1):=n.chs.row.cell (j:=0) rfl;have D:=hd n;have HL:=hd B;rw[List.length_cons] at ac;unfold maxLen at ab;clear h n hf B m;generalize F.1.1=id at *;unfold ptr;go_enter func210,ntmps210;go_wp2_with fail;go_fit hE;rintro e w1 ⟨rfl,⟨C,O⟩,L⟩;have hD:=p5 O;have X:=hd L;clear hE O L c0 d0;go_wp2_with fail;go_fit hD;rintro e v ⟨rfl,⟨V,A⟩,H⟩;have u:Hid (ak w v S [201,99,201,210]):=X.out.trans H λk hk=>hk
 have K:dY v (aE S w) (s_ g t (d.length+1) o) (F.1::d.map Prod.fst) (F::d):=by
  have:=D.out.chs.keptT u.out.k (aE.old w) (by decide) (by decide);rwa [HL.out] at this
 have c0:v.cell? ⟨p,0,none⟩=some (s_ g t (d.length+1) o):=(u.out.bx D.out.box (by decide)).cell (i:=0) rfl;have T:w.heap.size<=v.heap.size:=u.out.size;have Z:=hd A;have R:¬aE S w mb:=HY.out.is.np;have hO:Hid (ak w v S [201,99,210]):=u.out.mono (λ_ h=>h) (by decide);by_cases U:d=[]
 ·subst U;clear A H hD K;go_wp2_with fail
  all_goals
   go_end0;exact⟨rfl,⟨C,V,zs,by simpa[fA] using Z.out⟩,hO.out⟩
 have ad:0<d.length:=S_.2 U;have J:¬o-1=0:=by omega
 have ae:¬o=1:=by omega
 have r:=K.tail (k:=1) (by simp) (off':=t+2) (.inl (by omega));rw[if_neg J,List.drop_one,List.drop_one,List.tail_cons,List.tail_cons,Nat.add_sub_cancel] at r;have E:=vk (N:=Ts.top n0 {s with outs:=s.outs++[(id,3)],segs:=zs.map Prod.snd}) r;have P:aU (v.alloc (.cells (cz (s_ g (t+2) d.length (o-1)) 0 0 (.pointer none)) 240)) (aE (aE S w) v) yb mb n0 c {s with outs:=s.outs++[(id,3)],segs:=zs.map Prod.snd} q sb qv C {x with tv:=V} tl zs:=(A.later (af _ _)).mono (aE.old v) (aE.not R A.rest.ml)
 have hA:=ye P (v.heap.size,Sm.new (d.map Prod.fst)) E (λe=>by
  obtain⟨z,U,e⟩:=q_.1 e;obtain⟨_,_,_,hs⟩:=A.rest.train.segs z U;have:=hs.box.lt
  omega) hl
 have G:Hid (Bl v (v.alloc (.cells (cz (s_ g (t+2) d.length (o-1)) 0 0 (.pointer none)) 240))):=af _ _;unfold cz at hA G;clear A H hD K E r P;go_wp2_with fail;go_fit hA;rintro e w4 ⟨rfl,⟨W,Q⟩,M⟩;have aa:Hid (aU w4 (aE S w) yb mb n0 c {s with outs:=s.outs++[(id,3)],segs:=Sm.new (d.map Prod.fst)::zs.map Prod.snd} q sb qv C {x with tv:=W} tl ((v.heap.size,Sm.new (d.map Prod.fst))::zs)):=Q.mono (aE.three T (e_ T G.out.size)) R;have Y:Hid (ak v w4 (aE S w) [201,210]):=(ak.below (ts:=[]) G.out).trans M λk hk=>hk;clear hA Q M;go_wp2_with fail;go_end0;refine⟨rfl,⟨C,W,(v.heap.size,Sm.new (d.map Prod.fst))::zs,?_⟩,ak.mono (ak.trans hO.out Y.out λk hk=>hk) (λ_ h=>h) (by decide)⟩
 have e:fA (d.map Prod.fst)=[Sm.new (d.map Prod.fst)]:=by
  unfold fA;rw[if_neg (by simpa using U)]
 rw[e];exact aa.out
variable{k:Nat}
theorem ri {l:List Cg}(h:dY w S cv l cl):dt (w.alloc (.cells (cz cv 0 0 (.pointer none)) 240)).drew (aE S w) N (w.heap.size,Sm.new l):=
 (vk h).keptT (ts:=[]) ⟨b_ _,λ_ _ _ _=>rfl⟩ (λ_ h=>h) (b_ _) (by decide) (by unfold dO;decide)
theorem oV (h:∀z∈zs,dt w S N z){p:Nat}(hp:w.heap.size<=p):p∉zs.map Prod.fst:=λe=>by
 obtain⟨z,b,rfl⟩:=q_.1 e
 obtain⟨_,_,_,a⟩:=h z b
 have:=a.box.lt
 omega
theorem yg (h:aU w S yb mb n0 c s q sb qv ov x tl ((p,f)::zs))(hk:0<k)(hkl:k<f.l.length)(h8:f.l.length<=8)(hl:zs.length<1048575000):
 c_ 211 #[ptr yb,ptr p,I k] w λe w'=>e=.returned (.tuple #[])/\(∃tv' zs',aU w' (aE S w) yb mb n0 c (s.split f k (zs.map Prod.snd)) q sb qv ov {x with tv:=tv'} tl zs'/\zs'.length<=zs.length+2)/\ak w w' S [201,210]:=by
 obtain⟨cv,jv,v,o⟩:=h.rest.train.segs (p,f) (by simp);have H:v.length=f.l.length:=by rw[<-o.chs.fst,d_]
 obtain⟨g,b,a,rfl,ag,ad⟩:=o.chs.row.addr (by omega);have hD:=p5 h;have HY:=hd h;have C:=hd o;have K:=hd H;unfold maxLen at ad;rw[<-H] at hkl h8;clear h o H;unfold ptr;go_enter func211,ntmps211;go_upto_region 1 with fail;go_fit hD;rintro e t ⟨rfl,⟨ae,A⟩,u⟩;have D:=u.bx C.out.box (by decide);have r:=C.out.chs.keptT u.k (λ_ h=>h) (by decide) (by decide);have G:¬a-k=0:=by omega
 have af:¬a=k:=by omega
 have n:=r.tail (k:=k) (by rw[<-K.out];omega) (off':=b+k*2) (.inl rfl);rw[if_neg G] at n;have j:=ri (N:=Ts.top n0 {s with segs:=zs.map Prod.snd}) n;have O:aU (t.alloc (.cells (cz (s_ g (b+k*2) (v.length-k) (a-k)) 0 0 (.pointer none)) 240)).drew (aE S t) yb mb n0 c {s with segs:=zs.map Prod.snd} q sb qv ov {x with tv:=ae} tl zs:=(A.later (aw _ _)).mono (aE.old t) A.is.np;have M:=ye O (t.heap.size,Sm.new (f.l.drop k)) j (oV A.rest.train.segs (b_ _)) (by omega);have c0:=D.c 0 (s_ g b v.length a);have W:=hd u;have y:Hid (Bl t (t.alloc (.cells (cz (s_ g (b+k*2) (v.length-k) (a-k)) 0 0 (.pointer none)) 240)).drew):=aw _ _;have V:=hd r;have L:=hd D;have R:=hd (HY.out.is.np);have J:=u.size;have q1:(k:Int)<=v.length:=by omega
 have q2:(0:Int)<=k:=by omega
 have wk:IntKind.i64.wrap (k:Int)=k:=wrap_i64 (by omega) (by omega);unfold cz at M y;clear hD A u r n j O D;go_upto_region 1 with fail;go_cut [] from 22 (λwz=>∃tv,aU wz (aE S w) yb mb n0 c {s with segs:=Sm.new (f.l.drop k)::zs.map Prod.snd} q sb qv ov {x with tv:=tv} tl ((t.heap.size,Sm.new (f.l.drop k))::zs)/\ak t wz S [201,210])
 case first=>
  go_region_held_law (λw'=>w'.cell? ⟨p,0,none⟩=some (s_ g b v.length a)) (go_keep) ((go_at_call 245;refine M.mono ?_;rintro e w3 ⟨rfl,⟨B,m⟩,d⟩;have x3:w3.cell? ⟨p,0,none⟩=some (s_ g b v.length a):=(d.bx (Bx.later L.out y.out) (by decide)).cell (i:=0) rfl;have ab:Hid (aU w3 (aE S w) yb mb n0 c {s with segs:=Sm.new (f.l.drop k)::zs.map Prod.snd} q sb qv ov {x with tv:=B} tl ((t.heap.size,Sm.new (f.l.drop k))::zs)):=(m.mono (λk hk=>aE.three J (e_ J y.out.size) k (hk.imp (λh=>h.imp .inl (λh=>h)) (λh=>h))) R.out);have X:Hid (ak t w3 S [201,210]):=ak.trans (ak.below (ts:=[]) y.out) d (λk hk=>hk);clear m d))
  all_goals
   go_wp2_with fail;go_meet
   case rel=>exact⟨B,ab.out,X.out⟩
 obtain⟨B,m,d⟩:=hcut;rename World=>wz;have F:=d.bx L.out (by decide);have r:=V.out.keptT d.k (aE.old w) (by decide) (by decide);have hcut:=r.cut (k:=k) (by rw[<-K.out];omega);have T:=e_ J d.size;have j:=ri (N:=Ts.top n0 {s with segs:=Sm.new (f.l.drop k)::zs.map Prod.snd}) hcut;have P:aU (wz.alloc (.cells (cz (s_ g b k a) 0 0 (.pointer none)) 240)).drew (aE (aE S w) wz) yb mb n0 c {s with segs:=Sm.new (f.l.drop k)::zs.map Prod.snd} q sb qv ov {x with tv:=B} tl ((t.heap.size,Sm.new (f.l.drop k))::zs):=(m.later (aw _ _)).mono (aE.old wz) m.is.np;have M:=ye P (wz.heap.size,Sm.new (f.l.take k)) j (oV m.rest.train.segs (b_ _)) (by rw[List.length_cons];omega);have c0:=F.c 0 (s_ g b v.length a);have z:Hid (Bl wz (wz.alloc (.cells (cz (s_ g b k a) 0 0 (.pointer none)) 240)).drew):=aw _ _;have aa:=hd F;have Z:Hid (ak w wz S [201,210]):=ak.mono (ak.trans W.out d (aE.old w)) (λ_ h=>h) (by decide);have q3:(k:Int)<=a:=by omega
 unfold cz at M z;clear m d F r hcut j P;go_wp2_with fail;go_region_held_law (λw'=>w'.cell? ⟨p,0,none⟩=some (s_ g b v.length a)) (go_keep) ((go_at_call 245;refine M.mono ?_;rintro e w5 ⟨rfl,⟨U,Q⟩,E⟩;have x5:w5.cell? ⟨p,0,none⟩=some (s_ g b v.length a):=(E.bx (Bx.later aa.out z.out) (by decide)).cell (i:=0) rfl;have ac:Hid (aU w5 (aE S w) yb mb n0 c {s with segs:=Sm.new (f.l.take k)::Sm.new (f.l.drop k)::zs.map Prod.snd} q sb qv ov {x with tv:=U} tl ((wz.heap.size,Sm.new (f.l.take k))::(t.heap.size,Sm.new (f.l.drop k))::zs)):=(Q.mono (aE.three T (e_ T z.out.size)) R.out);have Y:Hid (ak w w5 S [201,210]):=ak.mono (ak.trans Z.out (ak.trans (ak.below (ts:=[]) z.out) E (λk hk=>hk)) (λk hk=>hk)) (λ_ h=>h) (by decide);clear Q E))
 all_goals
  go_wp2_with fail;go_end0;exact⟨rfl,⟨U,_,ac.out,by simp⟩,Y.out⟩
end
end Go.Proofs.YtgamgomepdfgdaaGreat
