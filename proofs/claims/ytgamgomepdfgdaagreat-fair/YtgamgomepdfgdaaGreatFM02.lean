import Derived.Test.YtgamgomepdfgdaaGreatFM01
set_option maxRecDepth 100000
set_option maxHeartbeats 8000000
namespace Go.Proofs.YtgamgomepdfgdaaGreat
open Go.RowKit Go.Proofs.Tryz
theorem ret_bool {a b:Bool}(h:a=b):Ending.returned (.bool a)=.returned (.bool b):=by rw[h]
theorem good_stop {α:Type}{ok:α->Bool}{key:α->ByteArray}{l:List α}{k:Nat}(hk:k<l.length)(h:¬ok l[k]=true):¬Good ok key l:=λhg=>h (hg.1 _ (List.getElem_mem hk))
theorem good_twice {α:Type}{ok:α->Bool}{key:α->ByteArray}{l:List α}{j k:Nat}(hk:k<l.length)(hj:j<k)(h:key (l[j]'(by omega))=key l[k]):¬Good ok key l:=λhg=>
  List.pairwise_iff_getElem.1 hg.2 j k (by omega) hk hj h
def EditsOK (l:List Ed):Prop:=1<=l.length/\l.length<=4/\Good okEd Prod.fst l
theorem edits_cells {w wr:World}{b off:Nat}{l:List Ed}(hb:Below w.heap.size w wr)(hlt:b<w.heap.size)(h0:∀i (h:i<l.length),w.cell? ⟨b,off+i*3,none⟩=some (.string l[i].1))(h1:∀i (h:i<l.length),w.cell? ⟨b,off+i*3+1,none⟩=some (.string l[i].2.1))(h2:∀i (h:i<l.length),w.cell? ⟨b,off+i*3+2,none⟩=some (.string l[i].2.2)):
    (∀i (h:i<l.length),wr.cell? ⟨b,off+i*3,none⟩=some (.string l[i].1))/\(∀i (h:i<l.length),wr.cell? ⟨b,off+i*3+1,none⟩=some (.string l[i].2.1))/\(∀i (h:i<l.length),wr.cell? ⟨b,off+i*3+2,none⟩=some (.string l[i].2.2))/\b<wr.heap.size:=
  ⟨λi h=>(hb.cell (by exact hlt)).trans (h0 i h),λi h=>(hb.cell (by exact hlt)).trans (h1 i h),λi h=>(hb.cell (by exact hlt)).trans (h2 i h),Nat.lt_of_lt_of_le hlt hb.size⟩
theorem files_cells {w wr:World}{b off:Nat}{l:List Fl}(hb:Below w.heap.size w wr)(hlt:b<w.heap.size)(h0:∀i (h:i<l.length),w.cell? ⟨b,off+i*2,none⟩=some (.string l[i].1))(h1:∀i (h:i<l.length),w.cell? ⟨b,off+i*2+1,none⟩=some (.string l[i].2)):
    (∀i (h:i<l.length),wr.cell? ⟨b,off+i*2,none⟩=some (.string l[i].1))/\(∀i (h:i<l.length),wr.cell? ⟨b,off+i*2+1,none⟩=some (.string l[i].2))/\b<wr.heap.size:=
  ⟨λi h=>(hb.cell (by exact hlt)).trans (h0 i h),λi h=>(hb.cell (by exact hlt)).trans (h1 i h),Nat.lt_of_lt_of_le hlt hb.size⟩
end Go.Proofs.YtgamgomepdfgdaaGreat
