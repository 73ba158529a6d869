import Derived.Carry
import Derived.Test.YtgamgomepdfgdaaGreatEM43
import Derived.Test.YtgamgomepdfgdaaGreatEM44
set_option maxRecDepth 100000
set_option maxHeartbeats 8000000
namespace Go.Proofs.YtgamgomepdfgdaaGreat
open Go.RowKit Go.Proofs.Tryz
section
open Go.ChangeShapes Go.WideShapes Go.ChangeAt
theorem to_bound {H:Type}{d0 d1 d2 d3:DataW H}(hk:Rows.uptoSmall H [d0,d1,d2,d3]=true):Rows.uptoBulk d0+(Rows.uptoBulk d1+(Rows.uptoBulk d2+(Rows.uptoBulk d3+0)))<=1048576:=by
  have h:Rows.uptoBulkAll [d0,d1,d2,d3]<=1048576:=of_decide_eq_true hk
  simp only[Rows.uptoBulkAll] at h
  exact h
theorem torn_contract (H:Type)(enc:TypeId×Value->H)(W:World)(base:Nat)(args:Array Value)(ds gs:List (DataW H))(before:List MemPlace)(hval:∀(j:Nat) t v,Tryz.f9.params[j]? =some t->args[j]? =some v->Value.okWide prog W .any base t v)(hW:DataW.Whole enc prog Tryz.f9.params.toList Rows.tornSpec.vars false W args.toList ds gs before)(hk:Rows.uptoSmall H (ds++gs)=true):
    Calls prog 9 args W λe W'=>∃v,e=.returned v/\Rows.tornSpec.post enc prog Tryz.f9 false true false false W args v W':=by
  have hW':=hW
  obtain⟨p,q,hA0,hV,rfl,_,_⟩:=hW
  have hA:DataW.TrodAll enc prog W 0 (λ_=>true) true Tryz.f9.params.toList args.toList ds p:=hA0
  rw[Tryz.params9] at hA hval
  obtain⟨v0,v2,v3,v4,d0,d2,d3,d4,p0,p2,p3,p4,rfl,rfl,rfl,h0,h2,h3,h4⟩:=trodAll_four hA
  obtain⟨rfl,rfl⟩:=trodVars_none hV
  obtain⟨cs,rfl,hcs⟩:=okWide_struct underlying23 (hval 0 23 v0 rfl rfl)
  obtain⟨b2,n2',c2',rfl⟩:=okWide_slice underlying25 (hval 1 25 v2 rfl rfl)
  clear hA0
  simp only[List.append_nil] at hW' hk
  have hbnd:=to_bound hk
  have H0:=h0
  have H2:=h2
  have H3:=h3
  have H4:=h4
  obtain⟨f0,hf0⟩:=h0
  obtain⟨f2,hf2⟩:=h2
  obtain⟨f3,hf3⟩:=h3
  obtain⟨f4,hf4⟩:=h4
  obtain⟨kp,rfl⟩:=okWide_int underlying3 (hval 2 3 v3 rfl rfl)
  obtain⟨pu,rfl⟩:=okWide_bool underlying4 (hval 3 4 v4 rfl rfl)
  have hkp:-9223372036854775808<=kp/\kp<9223372036854775808:=by
    obtain⟨k,e,hr⟩:=one_int (v:=.int .i64 kp) (x:=some (d3,p3)) hf3 rfl
    cases e
    exact hr
  have hlt:∀x∈p0++(p2++(p3++p4)),x.block<W.heap.size:=λx hx=>by simpa using hW'.lt x (by simpa[List.append_assoc] using hx)
  have hlt0:∀x∈p0,x.block<W.heap.size:=λx hx=>hlt x (List.mem_append_left _ hx)
  have hlt2:∀x∈p2,x.block<W.heap.size:=λx hx=>hlt x (List.mem_append_right _ (List.mem_append_left _ hx))
  have hlt3:∀x∈p3,x.block<W.heap.size:=λx hx=>hlt x (List.mem_append_right _ (List.mem_append_right _ (List.mem_append_left _ hx)))
  have hlt4:∀x∈p4,x.block<W.heap.size:=λx hx=>hlt x (List.mem_append_right _ (List.mem_append_right _ (List.mem_append_right _ hx)))
  have h7:prog.cellsOf 23=7:=by kernel_rfl
  obtain⟨n0,n1,n2,n3,n4,n5,n6,ecs,r0,r1,r2,r3,r4,r5,r6⟩:=cfg_of (cs:=cs.toList) (by rw[Array.length_toList,hcs,h7]) hf0
  obtain rfl:cs=#[.int .i64 n0,.int .i64 n1,.int .i64 n2,.int .i64 n3,.int .i64 n4,.int .i64 n5,.int .i64 n6]:=by
    apply Array.toList_inj.1
    rw[ecs]
  obtain⟨xs,hA2,hE2,hx6⟩:=acts_of hf2
  simp only at hx6 hE2
  have hLW:Calls prog 9 #[.agg #[.int .i64 n0,.int .i64 n1,.int .i64 n2,.int .i64 n3,.int .i64 n4,.int .i64 n5,.int .i64 n6],.slice b2 n2' c2',.int .i64 kp,.bool pu] W λe w'=>e=.returned (.bool true)/\Below W.heap.size W w':=by
    cases pu
    · exact law_torn_sub n0 n1 n2 n3 n4 n5 n6 (.slice b2 n2' c2') xs kp W r0 r1 r2 r3 r4 r5 r6 hkp hA2 (λa ha=>⟨(hE2 a ha).1,by have:=(hE2 a ha).2.1;omega,(hE2 a ha).2.2.1,(hE2 a ha).2.2.2⟩) (by omega)
    · exact law_torn_pump n0 n1 n2 n3 n4 n5 n6 (.slice b2 n2' c2') xs kp W r0 r1 r2 r3 r4 r5 r6 hkp hA2 (λa ha=>⟨(hE2 a ha).1,by have:=(hE2 a ha).2.1;omega,(hE2 a ha).2.2.1,(hE2 a ha).2.2.2⟩) (by omega)
  refine hLW.mono λe W' ⟨he,hnx⟩=>?_
  subst he
  refine⟨_,rfl,_,_,_,[],p0++p2++p3++p4,[],hW',?_,?_,rfl,hnx.frame _,λh=>by cases h⟩
  · exact trodAll_mk1 (shut_bool underlying4 true)
  · rw[List.append_assoc,List.append_assoc]
    exact trodAll_mk4 (Below.trod tz_laidOut (by kernel_rfl) (of_decide_eq_true (by kernel_rfl)) H0 hnx hlt0) (Below.trod tz_laidOut (by kernel_rfl) (of_decide_eq_true (by kernel_rfl)) H2 hnx hlt2) (Below.trod tz_laidOut (by kernel_rfl) (of_decide_eq_true (by kernel_rfl)) H3 hnx hlt3) (Below.trod tz_laidOut (by kernel_rfl) (of_decide_eq_true (by kernel_rfl)) H4 hnx hlt4)
theorem torn_lifted (os:Os)(started:os.Started)(H:Type)(enc:TypeId×Value->H)(F:Stop.Interp):
    ReturnsInHanded {} Tryz.checked os 9 .any ((Rows.OpenSpec.upto Rows.tornSpec).pre6 enc prog Tryz.f9 Rows.tornUptoRow.domain false) (((Rows.OpenSpec.upto Rows.tornSpec).at F).post enc prog Tryz.f9 false true false false):=by
  refine returnsInHanded_of_cond (C:=Tryz.checked) (s:=Rows.OpenSpec.upto Rows.tornSpec) (k:=Rows.uptoSmall) rfl tz_own started (by kernel_rfl) func9
    (OpenSpec.witness (enc:=enc) (C:=Tryz.checked) (s:=Rows.OpenSpec.upto Rows.tornSpec) (k:=Rows.uptoSmall) rfl false ⟨#[],#[.agg #[.int .i64 0,.int .i64 0,.int .i64 0,.int .i64 0,.int .i64 0,.int .i64 0,.int .i64 0],.slice none 0 0,.int .i64 0,.bool false],[]⟩ 8 (by kernel_rfl) (by kernel_rfl) (by kernel_rfl)
      (x:=([.agg [.lit (.int .i64 0),.lit (.int .i64 0),.lit (.int .i64 0),.lit (.int .i64 0),.lit (.int .i64 0),.lit (.int .i64 0),.lit (.int .i64 0)],.nil,.lit (.int .i64 0),.lit (.bool false)],[],[])) (by kernel_rfl) rfl (by kernel_rfl)) ?_
  intro W base args ds gs before hval hW _ hk _
  exact torn_contract H enc W base args ds gs before hval hW hk
theorem tornupto_holds:Rows.TornUptoSaid:=
  OpenClaim.holds_of_cond 9 Tryz.f9 rfl rfl rfl rfl rfl rfl rfl ⟨rfl,rfl,rfl,rfl,rfl⟩ rfl rfl rfl rfl rfl (by kernel_rfl) func9 (by kernel_rfl)
    (of_decide_eq_true (by kernel_rfl)) (by unfold Func.isWrapper;first|(rw[if_pos (by decide+kernel)];kernel_rfl)|(rw[if_neg (by decide+kernel)];exact⟨rfl,rfl⟩))
    (λos started H enc _ F=>torn_lifted os started H enc F)
end
end Go.Proofs.YtgamgomepdfgdaaGreat
