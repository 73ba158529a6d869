import Derived.Test.YtgamgomepdfgdaaGreatFM42
set_option maxRecDepth 100000
set_option maxHeartbeats 8000000
namespace Go.Proofs.YtgamgomepdfgdaaGreat
open Go.RowKit Go.Proofs.Tryz
section
open Go.ChangeShapes Go.WideShapes Go.ChangeAt
theorem fair_contract (H:Type)(enc:TypeId×Value->H)(W:World)(base:Nat)(args:Array Value)(ds gs:List (DataW H))(before:List MemPlace)(hval:∀(j:Nat) t v,Tryz.f8.params[j]? =some t->args[j]? =some v->Value.okWide prog W .any base t v)(hW:DataW.Whole enc prog Tryz.f8.params.toList Rows.fairSpec.vars false W args.toList ds gs before):
    Calls prog 8 args W λe W'=>∃v,e=.returned v/\Rows.fairSpec.post enc prog Tryz.f8 false true false false W args v W':=by
  have hW':=hW
  obtain⟨p,q,hA0,hV,rfl,_,_⟩:=hW
  have hA:DataW.TrodAll enc prog W 0 (λ_=>true) true Tryz.f8.params.toList args.toList ds p:=hA0
  rw[Tryz.params8] at hA hval
  obtain⟨v0,v2,d0,d2,p0,p2,rfl,rfl,rfl,h0,h2⟩:=trodAll_two hA
  obtain⟨rfl,rfl⟩:=trodVars_none hV
  obtain⟨cs,rfl,hcs⟩:=okWide_struct underlying23 (hval 0 23 v0 rfl rfl)
  obtain⟨ot,rfl⟩:=okWide_int underlying3 (hval 1 3 v2 rfl rfl)
  clear hA0
  simp only[List.append_nil] at hW'
  have H0:=h0
  have H2:=h2
  obtain⟨f0,hf0⟩:=h0
  obtain⟨f2,hf2⟩:=h2
  have hlt:∀x∈p0++p2,x.block<W.heap.size:=λx hx=>by simpa using hW'.lt x hx
  have hlt0:∀x∈p0,x.block<W.heap.size:=λx hx=>hlt x (List.mem_append_left _ hx)
  have hlt2:∀x∈p2,x.block<W.heap.size:=λx hx=>hlt x (List.mem_append_right _ hx)
  have h7:prog.cellsOf 23=7:=by kernel_rfl
  obtain⟨n0,n1,n2,n3,n4,n5,n6,ecs,r0,r1,r2,r3,r4,r5,r6⟩:=cfg_of (cs:=cs.toList) (by rw[Array.length_toList,hcs,h7]) hf0
  obtain rfl:cs=#[.int .i64 n0,.int .i64 n1,.int .i64 n2,.int .i64 n3,.int .i64 n4,.int .i64 n5,.int .i64 n6]:=by
    apply Array.toList_inj.1
    rw[ecs]
  have hot:-9223372036854775808<=ot/\ot<9223372036854775808:=by
    obtain⟨k,e,hr⟩:=one_int (v:=.int .i64 ot) (x:=some (d2,p2)) hf2 rfl
    cases e
    exact hr
  refine(law_fair n0 n1 n2 n3 n4 n5 n6 ot W r0 r1 r2 r3 r4 r5 r6 hot).mono λe W' ⟨he,hnx⟩=>?_
  subst he
  refine⟨_,rfl,_,_,_,[],p0++p2,[],hW',?_,?_,rfl,hnx.frame _,λh=>by cases h⟩
  · exact trodAll_mk1 (shut_bool underlying4 true)
  · exact trodAll_mk2 (Below.trod tz_laidOut (by kernel_rfl) (of_decide_eq_true (by kernel_rfl)) H0 hnx hlt0) (Below.trod tz_laidOut (by kernel_rfl) (of_decide_eq_true (by kernel_rfl)) H2 hnx hlt2)
theorem fair_lifted (os:Os)(started:os.Started)(H:Type)(enc:TypeId×Value->H):
    ReturnsInHanded {} Tryz.checked os 8 .any (Rows.fairSpec.pre6 enc prog Tryz.f8 Rows.fairRow.domain false) (Rows.fairSpec.post enc prog Tryz.f8 false true false false):=by
  refine returnsInHanded_of_change (C:=Tryz.checked) tz_own started (by kernel_rfl) func8
    (ChangeSpec.witness6 (enc:=enc) (C:=Tryz.checked) false ⟨#[],#[.agg #[.int .i64 0,.int .i64 0,.int .i64 0,.int .i64 0,.int .i64 0,.int .i64 0,.int .i64 0],.int .i64 0],[]⟩ 8 (by kernel_rfl) (by kernel_rfl) (by kernel_rfl) (by kernel_rfl)) ?_
  intro W base args ds gs before hval hW _ _
  exact fair_contract H enc W base args ds gs before hval hW
theorem fair_holds:Rows.FairSaid:=
  OpenClaim.holds_of_wide 8 Tryz.f8 rfl rfl rfl rfl rfl rfl rfl ⟨rfl,rfl,rfl,rfl,rfl⟩ rfl rfl rfl rfl rfl (by kernel_rfl) func8 (by kernel_rfl)
    (of_decide_eq_true (by kernel_rfl)) (by unfold Func.isWrapper;first|(rw[if_pos (by decide+kernel)];kernel_rfl)|(rw[if_neg (by decide+kernel)];exact⟨rfl,rfl⟩))
    (λos started H enc _=>fair_lifted os started H enc)
end
end Go.Proofs.YtgamgomepdfgdaaGreat
