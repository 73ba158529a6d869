import Derived.Test.YtgamgomepdfgdaaGreatFM39
import Derived.Test.YtgamgomepdfgdaaGreatFM38
set_option maxRecDepth 100000
set_option maxHeartbeats 8000000
namespace Go.Proofs.YtgamgomepdfgdaaGreat
open Go.RowKit Go.Proofs.Tryz
theorem Gd.kind_in {c:Cfg}{σ:Sg}{p:Pe}(h:Gd c σ p){k:Kn}(hk:k∈p.known):(∃o∈(σ.ts c).outs,o.1=k.id/\k.kind=o.2)\/(k.id∈(σ.ts c).rest/\k.kind=0):=by
  have hm:k.id∈(σ.ts c).ids:=by rw[<-h.g.pos.ids];exact List.mem_map_of_mem hk
  have hkd:=h.g.pos.kinds k hk
  rw[h.dr,List.take_length] at hkd
  by_cases ho:k.id∈(σ.ts c).outs.map Prod.fst
  · left
    obtain⟨o,ho,e⟩:=List.mem_map.1 ho
    refine⟨o,ho,e,?_⟩
    rw[hkd,<-e]
    exact kindOf_mem h.g.ev.outs_nd ho
  · right
    refine⟨?_,by rw[hkd];exact kindOf_not ho⟩
    rcases List.mem_append.1 (h.g.ev.perm.mem_iff.2 hm) with h1|h1
    · exact absurd h1 ho
    · unfold Ts.rest
      rcases List.mem_append.1 h1 with h1|h1
      · exact List.mem_append_right _ h1
      · exact List.mem_append_left _ h1
theorem pe_ok {q:ByteArray}(h1:q.toList.isEmpty=false)(h2:q.size<=8):EditsOK (pe q):=by
  refine⟨by simp[pe],by simp[pe],λx hx=>?_,by unfold Apart;simp[pe]⟩
  rw[List.mem_singleton.1 hx]
  have hq:okFill q=true:=by
    unfold okFill okText
    rw[h1]
    simp[h2]
  show (okFill q&&okText ⟨#[]⟩&&okText ⟨#[120]⟩&& !((⟨#[]⟩:ByteArray).toList==(⟨#[120]⟩:ByteArray).toList))=true
  rw[hq]
  simp only[okText,Lib.toList_data]
  decide
theorem tip_first {q:ByteArray}(h:q≠fEd.1):edited g0 fE q=⟨#[]⟩:=by
  rw[edited_other λe he=>by rw[List.mem_singleton.1 he];exact λe=>h e.symm]
  rfl
theorem far_data {k:Nat}(h:k<17576):(pathB k).data.toList=[UInt8.ofNat (97+k%26),UInt8.ofNat (97+k/26%26),UInt8.ofNat (97+k/676)]:=by
  unfold pathB
  rw[strOfNums_data]
  have e1:(97+(k:Int)%26).toNat=97+k%26:=by omega
  have e2:(97+(k:Int)/26%26).toNat=97+k/26%26:=by omega
  have e3:(97+(k:Int)/676).toNat=97+k/676:=by omega
  simp only[List.map_cons,List.map_nil,e1,e2,e3]
theorem far_size {k:Nat}(h:k<17576):(pathB k).size=3:=by rw[Lib.size_eq,far_data h];rfl
theorem u8_inj {a b:Nat}(ha:a<256)(hb:b<256)(e:UInt8.ofNat a=UInt8.ofNat b):a=b:=by
  have:=congrArg UInt8.toNat e
  simp only[UInt8.toNat_ofNat'] at this
  omega
theorem far_ne {j k:Nat}(hj:j<17576)(hk:k<17576)(hn:j≠k):pathB j≠pathB k:=λe=>by
  have h1:=far_data hj
  rw[e,far_data hk] at h1
  injection h1 with a1 h2
  injection h2 with a2 h3
  injection h3 with a3 _
  have b1:=u8_inj (by omega) (by omega) a1
  have b2:=u8_inj (by omega) (by omega) a2
  have b3:=u8_inj (by omega) (by omega) a3
  omega
theorem far_ok {k:Nat}(h:k<17576):EditsOK (pe (pathB k)):=pe_ok (by rw[Lib.toList_data,far_data h];rfl) (by rw[far_size h];decide)
def lstB:ByteArray:=⟨#[108,97,115,116]⟩
theorem last_ok:EditsOK (pe lstB):=pe_ok (by rw[Lib.toList_data];rfl) (by decide)
def pF (i:Nat):ByteArray:=if i=999999 then lstB else pathB i
theorem pF_low {i:Nat}(h:i<17576):pF i=pathB i:=if_neg (by omega)
theorem pF_last:pF 999999=lstB:=if_pos rfl
theorem last_ne {k:Nat}(h:k<17576):lstB≠pathB k:=λe=>by
  have:=far_size h
  rw[<-e] at this
  exact absurd this (by decide)
theorem pF_ne (top:Nat):∀i j,(i<=top\/i=999999)->top<j->j<17576->pF i≠pF j:=λi j hi h1 h2=>by
  rw[pF_low h2]
  rcases hi with hi|rfl
  · rw[pF_low (by omega)]
    exact far_ne (by omega) h2 (by omega)
  · rw[pF_last];exact last_ne h2
theorem path_far (k:Nat)(hk:k<17576)(w:World):
    Calls prog 22 #[.int .i64 k] w λe w'=>e=.returned (.string (pathB k))/\w'=w.alloc (.cells #[.int .u8 (97+(k:Int)%26),.int .u8 (97+(k:Int)/26%26),.int .u8 (97+(k:Int)/676)] 5):=by
  have hcv:=run_convert_bytes_arg (P:=prog) (w:=w.alloc (.cells #[.int .u8 (97+(k:Int)%26),.int .u8 (97+(k:Int)/26%26),.int .u8 (97+(k:Int)/676)] 5)) 114 5 underlying114 underlying5 w.heap.size 0 3 3 [97+(k:Int)%26,97+(k:Int)/26%26,97+(k:Int)/676] rfl (by
    intro j hj
    match j,hj with
    |0,_=>simp
    |1,_=>simp
    |2,_=>simp) 9 underlying9
  rw[show strOfNums [97+(k:Int)%26,97+(k:Int)/26%26,97+(k:Int)/676]=pathB k from rfl] at hcv
  go_enter func22,ntmps22
  go_wp2
  go_ret
  exact⟨rfl,rfl⟩
structure FrS (c:Cfg)(top B:Nat)(σ:Sg)(p:Pe):Prop where
  gd:Gd c σ p
  fr:Fr pF 999999 top (σ.ts c)
  idle:Idle (σ.ts c)
  ids:∀i∈(σ.ts c).ids,i<=top\/i=999999\/i=1000000
  bud:Go.Proofs.YtgamgomepdfgdaaGreat.bud c σ<=B
def PreAt (w w':World)(pb xb:Nat)(c:Cfg)(k:Nat):Prop:=∃σ p,Tn w w' pb xb c σ p/\FrS c k (5+2*k) σ p/\(σ.ts c).queue.length=k/\(σ.ts c).segs=[]/\(σ.ts c).outs=[(1000000,1)]/\(σ.ts c).tip=edited g0 fE/\999999∉(σ.ts c).ids
theorem pre_zero {w w':World}{pb xb:Nat}{c:Cfg}(h:StAt w w' pb xb c {fS4 with acked:=1} 5):PreAt w w' pb xb c 0:=by
  obtain⟨σ,p,U,h1,h2,h3,h4,h5,_,h7⟩:=h
  refine⟨σ,p,⟨U,h1,h2,h3⟩,⟨h4,?_,.inl (by rw[h5];rfl),?_,h7⟩,by rw[h5];rfl,by rw[h5];rfl,by rw[h5];rfl,by rw[h5];rfl,by rw[h5];show 999999∉[1000000];decide⟩
  · rw[h5]
    refine⟨λy hy=>(by cases hy),λx hx=>(by cases hx),λi hi=>(by cases hi),List.Pairwise.nil,λi hi=>(by cases hi),λi h1 h2=>?_,λo ho=>by rw[List.mem_singleton.1 ho]⟩
    show edited g0 fE (pF i)=_
    rw[pF_low h2]
    refine tip_first λe=>?_
    have:=far_size h2
    rw[e] at this
    exact absurd this (by decide)
  · rw[h5]
    intro i hi
    right;right
    exact List.mem_singleton.1 hi
end Go.Proofs.YtgamgomepdfgdaaGreat
