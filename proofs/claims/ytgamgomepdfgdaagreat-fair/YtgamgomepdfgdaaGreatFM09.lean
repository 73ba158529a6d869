import Derived.Test.YtgamgomepdfgdaaGreatFM07
import Derived.Test.YtgamgomepdfgdaaGreatFM08
set_option maxRecDepth 100000
set_option maxHeartbeats 8000000
namespace Go.Proofs.YtgamgomepdfgdaaGreat
open Go.RowKit Go.Proofs.Tryz
abbrev Wt:=Nat×Nat×Nat×Value
def IsSl (v:Value):Prop:=∃a n c,v=.slice a n c
def wo (id:Nat)(q:List Wt):List Wt:=q.filter λx=>x.1 !=id
def rkG {α:Type}(lane:α->Nat)(q:List α)(L:Nat):List α:=(List.range L).flatMap λl=>q.filter λx=>lane x==l
theorem rkG_succ {α:Type}(lane:α->Nat)(q:List α)(L:Nat):rkG lane q (L+1)=rkG lane q L++q.filter λx=>lane x==L:=by
  rw[rkG,List.range_succ,List.flatMap_append];simp[rkG]
theorem rkG_below {α:Type}(lane:α->Nat)(q:List α):∀L,(rkG lane q L).Perm (q.filter λx=>decide (lane x<L))
  |0=>by simp[rkG]
  |L+1=>by
    rw[rkG_succ]
    have h:=List.filter_append_perm (λx=>decide (lane x<L)) (q.filter λx=>decide (lane x<L+1))
    rw[List.filter_filter,List.filter_filter] at h
    have e1:(q.filter λx=>decide (lane x<L)&&decide (lane x<L+1))=q.filter λx=>decide (lane x<L):=by
      congr 1;funext x
      by_cases h1:lane x<L
      · simp[h1];omega
      · simp[h1]
    have e2:(q.filter λx=>(!decide (lane x<L))&&decide (lane x<L+1))=q.filter λx=>lane x==L:=by
      congr 1;funext x
      rw[Bool.eq_iff_iff]
      simp only[Bool.and_eq_true,Bool.not_eq_true',decide_eq_false_iff_not,decide_eq_true_eq,beq_iff_eq]
      omega
    rw[e1,e2] at h
    exact((rkG_below lane q L).append_right _).trans h
theorem rkG_perm {α:Type}{lane:α->Nat}{q:List α}{L:Nat}(h:∀x∈q,lane x<L):(rkG lane q L).Perm q:=by
  have:=rkG_below lane q L
  rwa [List.filter_eq_self.2 (λx hx=>by simpa using h x hx)] at this
theorem rkG_map {α β:Type}(lane:β->Nat)(f:α->β)(q:List α)(L:Nat):rkG lane (q.map f) L=(rkG (λx=>lane (f x)) q L).map f:=by
  rw[rkG,rkG,List.map_flatMap]
  congr 1;funext l
  rw[List.filter_map];rfl
def Bef {α:Type}(lane ord:α->Nat)(x y:α):Prop:=lane x<lane y\/(lane x=lane y/\ord x<ord y)
theorem Bef.asym {α:Type}{lane ord:α->Nat}{x y:α}(h:Bef lane ord x y)(h':Bef lane ord y x):False:=by
  unfold Bef at h h';omega
theorem rkG_mem {α:Type}{lane:α->Nat}{q:List α}{L:Nat}{x:α}(h:x∈rkG lane q L):lane x<L:=by
  have:=(rkG_below lane q L).mem_iff.1 h
  simpa using (List.mem_filter.1 this).2
theorem rkG_sorted {α:Type}{lane ord:α->Nat}{q:List α}(h:q.Pairwise λx y=>ord x<ord y):∀L,(rkG lane q L).Pairwise (Bef lane ord)
  |0=>by simp[rkG]
  |L+1=>by
    rw[rkG_succ,List.pairwise_append]
    refine⟨rkG_sorted h L,?_,λx hx y hy=>?_⟩
    · have h2:=h.filter (λx=>lane x==L)
      refine List.Pairwise.imp_of_mem (fun {a b} ha hb hab=>?_) h2
      have ea:=(List.mem_filter.1 ha).2
      have eb:=(List.mem_filter.1 hb).2
      simp only[beq_iff_eq] at ea eb
      exact .inr ⟨by omega,hab⟩
    · have h1:=rkG_mem hx
      have h2:=(List.mem_filter.1 hy).2
      simp only[beq_iff_eq] at h2
      exact .inl (by omega)
theorem one_order {α:Type}{R:α->α->Prop}(asym:∀x y,R x y->R y x->False):∀{l m:List α},l.Perm m->l.Pairwise R->m.Pairwise R->l=m
  |[],m,h,_,_=>(List.nil_perm.1 h).symm
  |x::l,[],h,_,_=>by simpa using h.length_eq
  |x::l,y::m,h,hl,hm=>by
    rw[List.pairwise_cons] at hl hm
    have hxy:x=y:=by
      have hx:x∈y::m:=h.mem_iff.1 (by simp)
      have hy:y∈x::l:=h.mem_iff.2 (by simp)
      rcases List.mem_cons.1 hx with e|hx
      · exact e
      rcases List.mem_cons.1 hy with e|hy
      · exact e.symm
      exact(asym _ _ (hl.1 y hy) (hm.1 x hx)).elim
    subst hxy
    rw[one_order asym ((List.perm_cons x).1 h) hl.2 hm.2]
def Rc.ok (r:Rc):Prop:=(r.kind=1/\r.lane<256/\Small r.edits\/r.kind=2\/r.kind=3\/r.kind=5\/r.kind=6\/r.kind=7\/r.kind=4)/\r.num<9223372036854775808
theorem Rc.body1 {r:Rc}(h:r.kind=1):r.body=subB r.lane r.edits r.edits.length++be 8 r.num:=by
  simp[Rc.body,h,subB]
theorem Rc.bodyN {r:Rc}(h:r.kind=2\/r.kind=5\/r.kind=6):r.body=be 8 r.num:=by
  rcases h with h|h|h<;>simp[Rc.body,h]
theorem Rc.bodyB {r:Rc}(h:r.kind=3\/r.kind=7):r.body=[]:=by
  rcases h with h|h<;>simp[Rc.body,h]
theorem Rc.body4 {r:Rc}(h:r.kind=4):r.body=be 1 (passN r.pass)++be 8 r.num:=by
  simp[Rc.body,h,passN]
theorem Rc.bytes_eq (r:Rc):r.bytes=recB r.kind r.body:=rfl
theorem Rc.kind_lt {r:Rc}(h:r.ok):r.kind<256:=by
  rcases h.1 with h|h|h|h|h|h|h
  · omega
  all_goals omega
theorem Rc.body_lt {r:Rc}(h:r.ok):r.body.length<1000:=by
  rcases h.1 with ⟨h,_,hs⟩|h|h|h|h|h|h
  · have:=subB_len hs r.lane r.edits.length
    rw[Rc.body1 h,List.length_append,be_len];omega
  · rw[Rc.bodyN (.inl h),be_len];decide
  · rw[Rc.bodyB (.inl h)];decide
  · rw[Rc.bodyN (.inr (.inl h)),be_len];decide
  · rw[Rc.bodyN (.inr (.inr h)),be_len];decide
  · rw[Rc.bodyB (.inr h)];decide
  · rw[Rc.body4 h,List.length_append,be_len,be_len];decide
def progR (r:Rc)(ea:Option Addr)(en ec:Nat):Value:=
  .agg #[.int .i64 r.kind,.int .i64 r.lane,.slice ea en ec,.int .i64 (if r.kind=1\/r.kind=2 then r.num else 0:Nat),.bool (if r.kind=4 then r.pass else false),.int .i64 (if r.kind=4\/r.kind=5\/r.kind=6 then r.num else 0:Nat)]
def EdsIn (w:World)(r:Rc)(ea:Option Addr)(en:Nat):Prop:=
  r.kind=1->∃b off,ea=some ⟨b,off,none⟩/\en=r.edits.length/\b<w.heap.size/\(∀i (h:i<r.edits.length),w.cell? ⟨b,off+i*3,none⟩=some (.string r.edits[i].1))/\(∀i (h:i<r.edits.length),w.cell? ⟨b,off+i*3+1,none⟩=some (.string r.edits[i].2.1))/\(∀i (h:i<r.edits.length),w.cell? ⟨b,off+i*3+2,none⟩=some (.string r.edits[i].2.2))
theorem prog_bytes (r:Rc)(h:r.ok)(ea:Option Addr)(en ec:Nat)(w:World)(hE:EdsIn w r ea en):
    Calls prog 112 #[progR r ea en ec] w λe w'=>∃v',e=.returned v'/\Fresh w w' v' r.bytes:=by
  refine jbytes_of r.kind r.lane _ _ _ ea en ec r.body _ w (Rc.kind_lt h) (Rc.body_lt h) rfl ?_
  intro w' hb
  rcases h.1 with ⟨hk,hl,hs⟩|hk|hk|hk|hk|hk|hk
  · obtain⟨b,off,rfl,rfl,hlt,e0,e1,e2⟩:=hE hk
    rw[hk]
    exact jbody_submit r.lane _ _ _ r.edits b off ec w' hl hs (Nat.lt_of_lt_of_le hlt hb.size) (λi hi=>jcell_after hb (e0 i hi)) (λi hi=>jcell_after hb (e1 i hi)) (λi hi=>jcell_after hb (e2 i hi)) r.body (by rw[Rc.body1 hk];simp)
  · rw[Rc.bodyN (.inl hk)]
    exact jbody_num r.kind r.lane _ _ _ ea en ec w' (.inl hk) r.num (by simp[hk])
  · rw[Rc.bodyB (.inl hk)]
    exact jbody_bare r.kind r.lane _ _ _ ea en ec w' (.inl hk)
  · rw[Rc.bodyN (.inr (.inl hk))]
    exact jbody_num r.kind r.lane _ _ _ ea en ec w' (.inr (.inl hk)) r.num (by simp[hk])
  · rw[Rc.bodyN (.inr (.inr hk))]
    exact jbody_num r.kind r.lane _ _ _ ea en ec w' (.inr (.inr hk)) r.num (by simp[hk])
  · rw[Rc.bodyB (.inr hk)]
    exact jbody_bare r.kind r.lane _ _ _ ea en ec w' (.inr hk)
  · have:=jbody_ans r.lane 0 r.num r.pass ea en ec w' r.body (Rc.body4 hk)
    simpa[hk] using this
structure Cfg where
  lanes:Nat
  age:Nat
  batch:Nat
  window:Nat
  retries:Nat
  deadline:Nat
  queue:Nat
def Cfg.cells (c:Cfg):List Value:=[.int .i64 c.lanes,.int .i64 c.age,.int .i64 c.batch,.int .i64 c.window,.int .i64 c.retries,.int .i64 c.deadline,.int .i64 c.queue]
def Cfg.Ok (c:Cfg):Prop:=(1<=c.lanes/\c.lanes<=4)/\(1<=c.age/\c.age<=8)/\(1<=c.batch/\c.batch<=8)/\(1<=c.window/\c.window<=4)/\c.retries<=3/\(1<=c.deadline/\c.deadline<=100)/\(1<=c.queue/\c.queue<=16)
structure Ch where
  id:Nat
  lane:Nat
  passed:Nat
  ord:Nat
  edits:List Ed
def oc:Nat->List (Nat×Nat)->List Value
  |_,[]=>[]
  |k,o::l=>[.int .i64 ((k:Int)+1),.int .i64 o.1,.int .i64 o.2]++oc (k+1) l
theorem oc_snoc:∀(k:Nat) (l:List (Nat×Nat))(o:Nat×Nat),oc k (l++[o])=oc k l++[.int .i64 (((k+l.length:Nat):Int)+1),.int .i64 o.1,.int .i64 o.2]
  |k,[],o=>by simp[oc]
  |k,x::l,o=>by
    rw[List.cons_append,oc,oc_snoc (k+1) l o,oc,List.append_assoc,List.length_cons]
    have:k+1+l.length=k+(l.length+1):=by omega
    rw[this]
end Go.Proofs.YtgamgomepdfgdaaGreat
