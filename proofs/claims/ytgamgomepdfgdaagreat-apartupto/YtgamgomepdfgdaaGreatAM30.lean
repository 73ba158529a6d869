import Derived.Test.YtgamgomepdfgdaaGreatAM29
set_option maxRecDepth 100000
set_option maxHeartbeats 8000000
namespace Go.Proofs.YtgamgomepdfgdaaGreat
open Go.RowKit Go.Proofs.Tryz
section
open Go.ChangeShapes Go.WideShapes Go.ChangeAt
section
variable {H : Type} {enc : TypeId × Value → H} {P : Program} {w : World} {base : Nat} {spare : Nat → Bool} {held : Bool}
theorem qN {t0 t1 t2 t3 t4:TypeId}{args:Array Value}{ds:List (DataW H)}{ps:List MemPlace}(h:DataW.TrodAll enc P w base spare held [t0,t1,t2,t3,t4] args.toList ds ps):
 ∃v0 v1 v2 v3 v4 d0 d1 d2 d3 d4 p0 p1 p2 p3 p4,args=#[v0,v1,v2,v3,v4]/\ds=[d0,d1,d2,d3,d4]/\ps=p0++(p1++(p2++(p3++p4)))/\DataW.Trod enc P w base spare held t0 v0 d0 p0/\DataW.Trod enc P w base spare held t1 v1 d1 p1/\DataW.Trod enc P w base spare held t2 v2 d2 p2/\DataW.Trod enc P w base spare held t3 v3 d3 p3/\DataW.Trod enc P w base spare held t4 v4 d4 p4:=by
 obtain⟨v0,l0,d0,e0,p0,q0,ha,rfl,rfl,h0,r0⟩:=trodAll_cons h;obtain⟨v1,l1,d1,e1,p1,q1,rfl,rfl,rfl,h1,r1⟩:=trodAll_cons r0;obtain⟨v2,l2,d2,e2,p2,q2,rfl,rfl,rfl,h2,r2⟩:=trodAll_cons r1;obtain⟨v3,l3,d3,e3,p3,q3,rfl,rfl,rfl,h3,r3⟩:=trodAll_cons r2;obtain⟨v4,l4,d4,e4,p4,q4,rfl,rfl,rfl,h4,r4⟩:=trodAll_cons r3;obtain⟨rfl,rfl,rfl⟩:=trodAll_nil r4;exact⟨v0,v1,v2,v3,v4,d0,d1,d2,d3,d4,p0,p1,p2,p3,p4,by cases args;simp_all,rfl,by simp,h0,h1,h2,h3,h4⟩
end
theorem sU {H:Type}{d0 d1 d2 d3 d4:DataW H}(hk:Rows.uptoSmall H [d0,d1,d2,d3,d4]=true):Rows.uptoBulk d0+(Rows.uptoBulk d1+(Rows.uptoBulk d2+(Rows.uptoBulk d3+(Rows.uptoBulk d4+0))))<=1048576:=by
 have h:Rows.uptoBulkAll [d0,d1,d2,d3,d4]<=1048576:=of_decide_eq_true hk;simp only[Rows.uptoBulkAll] at h;exact h
theorem nU (H:Type)(enc:TypeId×Value->H)(W:World)(base:Nat)(args:Array Value)(ds gs:List (DataW H))(before:List MemPlace)(hval:∀(j:Nat) t v,Tryz.f5.params[j]? =some t->args[j]? =some v->Value.okWide prog W .any base t v)(hW:DataW.Whole enc prog Tryz.f5.params.toList Rows.apartSpec.vars false W args.toList ds gs before)(hk:Rows.uptoSmall H (ds++gs)=true):
 Calls prog 5 args W λe W'=>∃v,e=.returned v/\Rows.apartSpec.post enc prog Tryz.f5 false true false false W args v W':=by
 have hW':=hW;obtain⟨p,q,hA0,hV,rfl,_,_⟩:=hW;have hA:DataW.TrodAll enc prog W 0 (λ_=>true) true Tryz.f5.params.toList args.toList ds p:=hA0;rw[Tryz.params5] at hA hval;obtain⟨v0,v1,v2,v3,v4,d0,d1,d2,d3,d4,p0,p1,p2,p3,p4,rfl,rfl,rfl,h0,h1,h2,h3,h4⟩:=qN hA;obtain⟨rfl,rfl⟩:=trodVars_none hV;obtain⟨cs,rfl,hcs⟩:=okWide_struct underlying23 (hval 0 23 v0 rfl rfl);obtain⟨cs',rfl,hcs'⟩:=okWide_struct underlying23 (hval 1 23 v1 rfl rfl);obtain⟨b1,n1',c1',rfl⟩:=okWide_slice underlying24 (hval 2 24 v2 rfl rfl);obtain⟨b2,n2',c2',rfl⟩:=okWide_slice underlying25 (hval 3 25 v3 rfl rfl);obtain⟨b3,n3',c3',rfl⟩:=okWide_slice underlying25 (hval 4 25 v4 rfl rfl);clear hA0;simp only[T_] at hW' hk;have hbnd:=sU hk;have H0:=h0;have H1:=h1;have H2:=h2;have H3:=h3;have H4:=h4;obtain⟨f0,hf0⟩:=h0;obtain⟨f1,hf1⟩:=h1;obtain⟨f2,hf2⟩:=h2;obtain⟨f3,hf3⟩:=h3;obtain⟨f4,hf4⟩:=h4;have hlt:∀x∈p0++(p1++(p2++(p3++p4))),x.block<W.heap.size:=λx hx=>by simpa using hW'.lt x (by simpa using hx)
 have hlt0:∀x∈p0,x.block<W.heap.size:=λx hx=>hlt x (by simp[hx]);have hlt1:∀x∈p1,x.block<W.heap.size:=λx hx=>hlt x (by simp[hx]);have hlt2:∀x∈p2,x.block<W.heap.size:=λx hx=>hlt x (by simp[hx]);have hlt3:∀x∈p3,x.block<W.heap.size:=λx hx=>hlt x (by simp[hx]);have hlt4:∀x∈p4,x.block<W.heap.size:=λx hx=>hlt x (by simp[hx]);have h7:prog.cellsOf 23=7:=by kernel_rfl
 obtain⟨n0,n1,n2,n3,n4,n5,n6,ecs⟩:=uQ (cs:=cs.toList) (by rw[Array.length_toList,hcs,h7]) hf0
 obtain rfl:cs=#[.int .i64 n0,.int .i64 n1,.int .i64 n2,.int .i64 n3,.int .i64 n4,.int .i64 n5,.int .i64 n6]:=by
  apply Array.toList_inj.1;rw[ecs]
 obtain⟨m0,m1,m2,m3,m4,m5,m6,ecs'⟩:=uQ (cs:=cs'.toList) (by rw[Array.length_toList,hcs',h7]) hf1
 obtain rfl:cs'=#[.int .i64 m0,.int .i64 m1,.int .i64 m2,.int .i64 m3,.int .i64 m4,.int .i64 m5,.int .i64 m6]:=by
  apply Array.toList_inj.1;rw[ecs']
 obtain⟨l,fa,fc,efv,hl,hsz,hll⟩:=sR hf2;obtain⟨xs,hA2,hE2,hx6⟩:=qK hf3;obtain⟨ys,hA3,hE3,hy6⟩:=qK hf4;simp only at hll hx6 hE2 hy6 hE3;have hLW:=Dg n0 n1 n2 n3 n4 n5 n6 m0 m1 m2 m3 m4 m5 m6 l fa fc (.slice b2 n2' c2') (.slice b3 n3' c3') xs ys W (by rw[<-efv];exact hl) (by omega) (by omega) hsz hA2 hA3 (λa ha=>⟨(hE2 a ha).1,by have:=(hE2 a ha).2.1;omega,(hE2 a ha).2.2⟩) (λa ha=>⟨(hE3 a ha).1,by have:=(hE3 a ha).2.1;omega,(hE3 a ha).2.2⟩) (by omega) (by omega);rw[<-efv] at hLW;unfold dx at hLW;refine hLW.mono λe W' ⟨he,hnx⟩=>?_;subst he;refine⟨_,rfl,_,_,_,[],p0++(p1++(p2++(p3++p4))),[],hW',?_,?_,rfl,hnx.frame _,λh=>by cases h⟩
 ·exact trodAll_mk1 (shut_bool underlying4 true)
 exact⟨p0,_,Below.trod dn (by kernel_rfl) (of_decide_eq_true (by kernel_rfl)) H0 hnx hlt0,trodAll_mk4 (Below.trod dn (by kernel_rfl) (of_decide_eq_true (by kernel_rfl)) H1 hnx hlt1) (Below.trod dn (by kernel_rfl) (of_decide_eq_true (by kernel_rfl)) H2 hnx hlt2) (Below.trod dn (by kernel_rfl) (of_decide_eq_true (by kernel_rfl)) H3 hnx hlt3) (Below.trod dn (by kernel_rfl) (of_decide_eq_true (by kernel_rfl)) H4 hnx hlt4),rfl⟩
theorem qM (os:Os)(started:os.Started)(H:Type)(enc:TypeId×Value->H)(F:Stop.Interp):
 ReturnsInHanded {} Tryz.checked os 5 .any ((Rows.OpenSpec.upto Rows.apartSpec).pre6 enc prog Tryz.f5 Rows.apartUptoRow.domain false) (((Rows.OpenSpec.upto Rows.apartSpec).at F).post enc prog Tryz.f5 false true false false):=by
 refine returnsInHanded_of_cond (C:=Tryz.checked) (s:=Rows.OpenSpec.upto Rows.apartSpec) (k:=Rows.uptoSmall) rfl Ab started (by kernel_rfl) func5
  (OpenSpec.witness (enc:=enc) (C:=Tryz.checked) (s:=Rows.OpenSpec.upto Rows.apartSpec) (k:=Rows.uptoSmall) rfl false ⟨#[],#[.agg #[.int .i64 0,.int .i64 0,.int .i64 0,.int .i64 0,.int .i64 0,.int .i64 0,.int .i64 0],.agg #[.int .i64 0,.int .i64 0,.int .i64 0,.int .i64 0,.int .i64 0,.int .i64 0,.int .i64 0],.slice none 0 0,.slice none 0 0,.slice none 0 0],[]⟩ 8 (by kernel_rfl) (by kernel_rfl) (by kernel_rfl)
   (x:=([.agg [.lit (.int .i64 0),.lit (.int .i64 0),.lit (.int .i64 0),.lit (.int .i64 0),.lit (.int .i64 0),.lit (.int .i64 0),.lit (.int .i64 0)],.agg [.lit (.int .i64 0),.lit (.int .i64 0),.lit (.int .i64 0),.lit (.int .i64 0),.lit (.int .i64 0),.lit (.int .i64 0),.lit (.int .i64 0)],.nil,.nil,.nil],[],[])) (by kernel_rfl) rfl (by kernel_rfl)) ?_
 intro W base args ds gs before hval hW _ hk _;exact nU H enc W base args ds gs before hval hW hk
theorem apartupto_holds:Rows.ApartUptoSaid:=
 OpenClaim.holds_of_cond 5 Tryz.f5 rfl rfl rfl rfl rfl rfl rfl ⟨rfl,rfl,rfl,rfl,rfl⟩ rfl rfl rfl rfl rfl (by kernel_rfl) func5 (by kernel_rfl)
  (of_decide_eq_true (by kernel_rfl)) (by unfold Func.isWrapper;first|(rw[if_pos (by decide+kernel)];kernel_rfl)|(rw[if_neg (by decide+kernel)];exact⟨rfl,rfl⟩))
  (λos started H enc _ F=>qM os started H enc F)
end
end Go.Proofs.YtgamgomepdfgdaaGreat
