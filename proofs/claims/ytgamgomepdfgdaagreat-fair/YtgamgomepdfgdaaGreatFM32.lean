import Derived.Test.YtgamgomepdfgdaaGreatFM30
set_option maxRecDepth 100000
set_option maxHeartbeats 8000000
namespace Go.Proofs.YtgamgomepdfgdaaGreat
open Go.RowKit Go.Proofs.Tryz
theorem info_jobD:(prog.info? 124).map (λi=>(i.zero,i.size,i.bytes))=some (some (.agg #[.int .i64 0,.int .i64 0,.slice none 0 0,.slice none 0 0]),4,64):=by kernel_rfl
def idsL (l:List Sm):List Nat:=l.flatMap λx=>x.l.map Prod.fst
def jb (x:Sm)(acc:List Nat):List Jbt:=match x.job with
  |some j=>[(j.num,j.til,acc++x.l.map Prod.fst,j.files)]
  |none=>[]
theorem jobsOf_cons (x:Sm)(l:List Sm)(acc:List Nat):jobsOf (x::l) acc=jb x acc++jobsOf l (acc++x.l.map Prod.fst):=rfl
theorem jobsOf_snoc:∀(a:List Sm) (x:Sm) (acc:List Nat),jobsOf (a++[x]) acc=jobsOf a acc++jb x (acc++idsL a)
  |[],x,acc=>by simp[jobsOf_cons,jobsOf,idsL]
  |y::a,x,acc=>by
    rw[List.cons_append,jobsOf_cons,jobsOf_cons,jobsOf_snoc a x,List.append_assoc]
    simp[idsL]
theorem jobsOf_len:∀(l:List Sm) (acc:List Nat),(jobsOf l acc).length<=l.length
  |[],_=>Nat.le_refl _
  |x::l,acc=>by
    rw[jobsOf_cons,List.length_append,List.length_cons]
    have:=jobsOf_len l (acc++x.l.map Prod.fst)
    have h2:(jb x acc).length<=1:=by unfold jb;split<;>simp
    omega
theorem jobsOf_mem {P:Jbt->Prop}:∀(l:List Sm) (acc:List Nat),(∀x∈l,∀a,∀y∈jb x a,P y)->∀y∈jobsOf l acc,P y
  |[],_,_,y,hy=>by cases hy
  |x::l,acc,h,y,hy=>by
    rw[jobsOf_cons] at hy
    rcases List.mem_append.1 hy with hy|hy
    · exact h x List.mem_cons_self acc y hy
    · exact jobsOf_mem l _ (λz hz=>h z (List.mem_cons_of_mem _ hz)) y hy
end Go.Proofs.YtgamgomepdfgdaaGreat
