import Derived.Test.YtgamgomepdfgdaaGreatFM13
set_option maxRecDepth 100000
set_option maxHeartbeats 8000000
namespace Go.Proofs.YtgamgomepdfgdaaGreat
open Go.RowKit Go.Proofs.Tryz
def jobN:Option Jb->Nat
  |none=>0
  |some j=>j.num
theorem row_typed {w:World}{base:Nat}{e:TypeId}{size n:Nat}{v:Value}{xs:List Value}(h:w.ownsRow base e size v n xs){g:Nat}(hv:v.ownBlock=some g):∃cur,w.heap[g]? =some (.cells cur e (0,0)):=(Sl.of_row h).typed hv
theorem row_ty {w:World}{base:Nat}{e:TypeId}{size n:Nat}{v:Value}{xs:List Value}(h:w.ownsRow base e size v n xs){g:Nat}(hg:v.ownBlock=some g):TyAt w g e:=(Sl.of_row h).ty hg
theorem row_same2 {w w':World}{base:Nat}{e:TypeId}{size n:Nat}{v:Value}{xs:List Value}(h:w.ownsRow base e size v n xs)(hk:∀g,v.ownBlock=some g->w'.heap[g]? =w.heap[g]?):w'.ownsRow base e size v n xs:=by
  refine⟨h.1,?_⟩
  rcases h.2 with h'|⟨g,cap,cur,rfl,hb,hg,hr⟩
  · exact .inl h'
  · exact .inr ⟨g,cap,cur,rfl,hb,(hk g rfl).trans hg,hr⟩
theorem KeepT.row {w w':World}{ts:List TypeId}(h:KeepT w w' ts){base:Nat}{e:TypeId}{size n:Nat}{v:Value}{xs:List Value}(hr:w.ownsRow base e size v n xs)(ht:e∉ts):w'.ownsRow base e size v n xs:=row_same2 hr λ_ hg=>h.same _ _ (row_ty hr hg) ht
theorem KeepT.of_only {w w':World}{S:Nat->Prop}{ts:List TypeId}(h:Only w w' S)(hS:∀k,S k->∃t∈ts,TyAt w k t):KeepT w w' ts:=
  ⟨h.size,λk _ hk ht=>h.block k hk.lt λe=>by
    obtain⟨t',h1,h2⟩:=hS k e
    exact ht (hk.one h2▸h1)⟩
theorem below_only {w0 w w':World}{S:Nat->Prop}(hb:Below w0.heap.size w0 w)(h:Only w w' S)(hS:∀k,S k->w0.heap.size<=k):Below w0.heap.size w0 w':=
  hb.trans ⟨h.os,h.tape,h.output,h.size,λk hk=>h.block k (Nat.lt_of_lt_of_le hk hb.size) λe=>by have:=hS k e;omega⟩
end Go.Proofs.YtgamgomepdfgdaaGreat
