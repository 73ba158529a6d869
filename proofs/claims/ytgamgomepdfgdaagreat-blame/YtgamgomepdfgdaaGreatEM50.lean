import Derived.Test.YtgamgomepdfgdaaGreatEM49
set_option maxRecDepth 100000
set_option maxHeartbeats 8000000
namespace Go.Proofs.YtgamgomepdfgdaaGreat
open Go.RowKit Go.Proofs.Tryz
section
open Go.ChangeShapes Go.WideShapes Go.ChangeAt
section
variable {H : Type} {enc : TypeId × Value → H} {W : World}
theorem bools_of {fuel:Nat}{v:Value}{x:DataW H×List MemPlace}(hf:DataW.trod enc prog W 0 (λ_=>true) true fuel 45 [v]=some x):
    ∃(bl:List Bool) (ba:Option Addr) (bc:Nat),v=.slice ba bl.length bc/\BoolsAt W ba bl/\bl.length<=bc/\bc<=maxLen:=by
  rcases Deep.open_slice1 underlying45 tz_bool hf with ⟨hcs,_⟩|⟨a,len,cap,m,n,V,D,Pl,hcs,_,hl,hm,hmm,_,hi⟩
  · obtain rfl:v=.slice none 0 0:=by simpa using hcs
    exact⟨[],none,0,rfl,.inl rfl,Nat.le_refl _,Nat.zero_le _⟩
  · obtain rfl:v=.slice (some a) len cap:=by simpa using hcs
    simp only[if_true] at hmm
    have each:∀i,i<len->∃b:Bool,W.cell? (a.add i)=some (.bool b):=λi hil=>by
      obtain⟨h1,h2⟩:=hi i (by omega)
      obtain⟨b,e⟩:=one_bool (v:=V i) (x:=some (D i,Pl i)) h2 rfl
      rw[e] at h1
      exact⟨b,h1⟩
    obtain⟨q,hq⟩:=Deep.choose_lt (α:=Bool) each
    have hL:((List.range len).map q).length=len:=by simp
    refine⟨(List.range len).map q,some a,cap,by rw[hL],?_,by rw[hL];exact hl,hm⟩
    by_cases h0:len=0
    · subst h0
      exact .inl rfl
    · obtain⟨b,off,spot⟩:=a
      have c0:=hq 0 (by omega)
      have hspot:spot=none:=by simpa[Addr.add] using World.cell?_spot c0
      subst hspot
      have hbW:b<W.heap.size:=cell_lt (o:=off) (by simpa[Addr.add] using c0)
      refine .inr ⟨b,off,rfl,hbW,λi h=>?_⟩
      have:=hq i (by rw[hL] at h;exact h)
      rw[<-add_plain,this]
      simp
end
theorem blame_contract (H:Type)(enc:TypeId×Value->H)(W:World)(base:Nat)(args:Array Value)(ds gs:List (DataW H))(before:List MemPlace)(hval:∀(j:Nat) t v,Tryz.f7.params[j]? =some t->args[j]? =some v->Value.okWide prog W .any base t v)(hW:DataW.Whole enc prog Tryz.f7.params.toList Rows.blameSpec.vars false W args.toList ds gs before):
    Calls prog 7 args W λe W'=>∃v,e=.returned v/\Rows.blameSpec.post enc prog Tryz.f7 false true false false W args v W':=by
  have hW':=hW
  obtain⟨p,q,hA0,hV,rfl,_,_⟩:=hW
  have hA:DataW.TrodAll enc prog W 0 (λ_=>true) true Tryz.f7.params.toList args.toList ds p:=hA0
  rw[Tryz.params7] at hA hval
  obtain⟨v0,v2,d0,d2,p0,p2,rfl,rfl,rfl,h0,h2⟩:=trodAll_two hA
  obtain⟨rfl,rfl⟩:=trodVars_none hV
  obtain⟨cs,rfl,hcs⟩:=okWide_struct underlying23 (hval 0 23 v0 rfl rfl)
  obtain⟨b2,n2',c2',rfl⟩:=okWide_slice underlying45 (hval 1 45 v2 rfl rfl)
  clear hA0
  simp only[List.append_nil] at hW'
  have H0:=h0
  have H2:=h2
  obtain⟨f0,hf0⟩:=h0
  obtain⟨f2,hf2⟩:=h2
  have hlt:∀x∈p0++p2,x.block<W.heap.size:=λx hx=>by simpa using hW'.lt x hx
  have hlt0:∀x∈p0,x.block<W.heap.size:=λx hx=>hlt x (List.mem_append_left _ hx)
  have hlt2:∀x∈p2,x.block<W.heap.size:=λx hx=>hlt x (List.mem_append_right _ hx)
  have h7:prog.cellsOf 23=7:=by kernel_rfl
  obtain⟨n0,n1,n2,n3,n4,n5,n6,ecs,r0,r1,r2,r3,r4,r5,r6⟩:=cfg_of (cs:=cs.toList) (by rw[Array.length_toList,hcs,h7]) hf0
  obtain rfl:cs=#[.int .i64 n0,.int .i64 n1,.int .i64 n2,.int .i64 n3,.int .i64 n4,.int .i64 n5,.int .i64 n6]:=by
    apply Array.toList_inj.1
    rw[ecs]
  obtain⟨bl,ba,bc,e,hB,hle,hmx⟩:=bools_of (v:=.slice b2 n2' c2') hf2
  cases e
  have hmx2:c2'<9223372036854775808:=by unfold maxLen at hmx;omega
  refine(law_blame n0 n1 n2 n3 n4 n5 n6 bl b2 c2' W r0 r1 r2 r3 r4 r5 r6 hB hle hmx2).mono λe W' ⟨he,hnx⟩=>?_
  subst he
  refine⟨_,rfl,_,_,_,[],p0++p2,[],hW',?_,?_,rfl,hnx.frame _,λh=>by cases h⟩
  · exact trodAll_mk1 (shut_bool underlying4 true)
  · exact trodAll_mk2 (Below.trod tz_laidOut (by kernel_rfl) (of_decide_eq_true (by kernel_rfl)) H0 hnx hlt0) (Below.trod tz_laidOut (by kernel_rfl) (of_decide_eq_true (by kernel_rfl)) H2 hnx hlt2)
theorem blame_lifted (os:Os)(started:os.Started)(H:Type)(enc:TypeId×Value->H):
    ReturnsInHanded {} Tryz.checked os 7 .any (Rows.blameSpec.pre6 enc prog Tryz.f7 Rows.blameRow.domain false) (Rows.blameSpec.post enc prog Tryz.f7 false true false false):=by
  refine returnsInHanded_of_change (C:=Tryz.checked) tz_own started (by kernel_rfl) func7
    (ChangeSpec.witness6 (enc:=enc) (C:=Tryz.checked) false ⟨#[],#[.agg #[.int .i64 0,.int .i64 0,.int .i64 0,.int .i64 0,.int .i64 0,.int .i64 0,.int .i64 0],.slice none 0 0],[]⟩ 8 (by kernel_rfl) (by kernel_rfl) (by kernel_rfl) (by kernel_rfl)) ?_
  intro W base args ds gs before hval hW _ _
  exact blame_contract H enc W base args ds gs before hval hW
theorem blame_holds:Rows.BlameSaid:=
  OpenClaim.holds_of_wide 7 Tryz.f7 rfl rfl rfl rfl rfl rfl rfl ⟨rfl,rfl,rfl,rfl,rfl⟩ rfl rfl rfl rfl rfl (by kernel_rfl) func7 (by kernel_rfl)
    (of_decide_eq_true (by kernel_rfl)) (by unfold Func.isWrapper;first|(rw[if_pos (by decide+kernel)];kernel_rfl)|(rw[if_neg (by decide+kernel)];exact⟨rfl,rfl⟩))
    (λos started H enc _=>blame_lifted os started H enc)
end
end Go.Proofs.YtgamgomepdfgdaaGreat
