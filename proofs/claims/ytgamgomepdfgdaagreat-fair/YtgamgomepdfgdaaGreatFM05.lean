import Derived.Deep.CutRange
import Derived.Deep.CutBlock
import Derived.Test.YtgamgomepdfgdaaGreatFM01
set_option maxRecDepth 100000
set_option maxHeartbeats 8000000
namespace Go.Proofs.YtgamgomepdfgdaaGreat
open Go.RowKit Go.Proofs.Tryz
theorem txt_len (s:ByteArray):(txt s).length=s.size+1:=by
  rw[txt,List.length_append,be_len];simp;omega
theorem edB_len (e:Ed):(edB e).length=e.1.size+e.2.1.size+e.2.2.size+3:=by
  rw[edB,List.length_append,List.length_append,txt_len,txt_len,txt_len];omega
def Small (es:List Ed):Prop:=es.length<=4/\∀x∈es,x.1.size<=8/\x.2.1.size<=8/\x.2.2.size<=8
theorem flat_small:∀(es:List Ed),(∀x∈es,x.1.size<=8/\x.2.1.size<=8/\x.2.2.size<=8)->(es.flatMap edB).length<=es.length*27
  |[],_=>by simp
  |e::es,h=>by
    have h1:=h e (by simp)
    have h2:=flat_small es λx hx=>h x (by simp[hx])
    rw[List.flatMap_cons,List.length_append,edB_len,List.length_cons]
    omega
def subB (lane:Nat)(es:List Ed)(k:Nat):List UInt8:=be 1 lane++be 1 es.length++(es.take k).flatMap edB
theorem subB_len {es:List Ed}(h:Small es)(lane k:Nat):(subB lane es k).length<=110:=by
  have h1:=flat_small (es.take k) λx hx=>h.2 x (List.mem_of_mem_take hx)
  have h2:=h.1
  rw[List.length_take] at h1
  rw[subB,List.length_append,List.length_append,be_len,be_len]
  omega
end Go.Proofs.YtgamgomepdfgdaaGreat
