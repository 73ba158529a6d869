import Derived.BigQuiet
import Derived.Laws.StructEq
import Derived.Deep.QuietTactic
import Derived.Test.YtgamgomepdfgdaaGreatEM01
set_option maxRecDepth 100000
set_option maxHeartbeats 8000000
namespace Go.Proofs.YtgamgomepdfgdaaGreat
open Go.RowKit Go.Proofs.Tryz
theorem ret_str {a b:ByteArray}(h:a=b):Ending.returned (.string a)=.returned (.string b):=by rw[h]
theorem drop_cons {α:Type}(l:List α)(k:Nat)(h:k<l.length):l.drop k=l[k]::l.drop (k+1):=List.drop_eq_getElem_cons h
theorem law_stands (l:List Fl)(q:ByteArray)(v:Value)(w:World)(hl:FilesAt w v l)(hn:l.length<8796093022208):
    Calls prog 102 #[v,.string q] w λe w'=>e=.returned (.string (standsL l q))/\w'=w:=by
  rcases hl with ⟨rfl,a,cap,rfl⟩|⟨b,off,cap,rfl,hlt,h0,h1⟩
  · go_enter func102,ntmps102
    go_wp2
    go_loop [5] (λi=>i=.int .i64 0) (λ_=>0)
    case atStart=>rfl
    case round=>
      subst hrel
      go_wp2
      go_ret
      exact⟨rfl,rfl⟩
  · go_enter func102,ntmps102
    go_wp2
    go_loop [5] (λi=>∃k:Nat,k<=l.length/\i=.int .i64 k/\Hid (standsL l q=standsL (l.drop k) q)) (λi=>l.length-(intOf i).toNat)
    case atStart=>exact⟨0,Nat.zero_le _,rfl,rfl⟩
    case round=>
      obtain⟨k,hk,rfl,hs⟩:=hrel
      by_cases hlt:k<l.length
      · have hd:=drop_cons l k hlt
        have H1:Hid ((l[k].1.toList==q.toList)=true->standsL l q=l[k].2):=λh=>by rw[hs.out,hd];exact standsL_hit _ _ _ h
        have H2:Hid ((l[k].1.toList==q.toList)=false->standsL l q=standsL (l.drop (k+1)) q):=λh=>by rw[hs.out,hd];exact standsL_miss _ _ _ h
        clear hd
        go_wp2
        · go_ret
          exact⟨ret_str (H1.out ‹_›).symm,rfl⟩
        · exact⟨⟨k+1,hlt,by go_num,H2.out ‹_›⟩,by simp[intOf];omega⟩
      · go_wp2
        go_ret
        exact⟨ret_str (by rw[hs.out,List.drop_of_length_le (by omega)];rfl),rfl⟩
theorem cell_lt {w:World}{b o:Nat}{v:Value}(h:w.cell? ⟨b,o,none⟩=some v):b<w.heap.size:=by
  by_cases hb:b<w.heap.size
  · exact hb
  · have:w.heap[b]? =none:=Array.getElem?_eq_none (by omega)
    simp[World.cell?,this] at h
theorem cell_after {w w':World}{b o:Nat}{v:Value}(hb:Below w.heap.size w w')(h:w.cell? ⟨b,o,none⟩=some v):w'.cell? ⟨b,o,none⟩=some v:=
  (World.cell?_of_block (w:=w) (hb.block b (cell_lt h))).trans h
theorem frozen_after {w w':World}{b o:Nat}(hb:Below w.heap.size w w')(hl:b<w.heap.size)(h:w.frozen? ⟨b,o,none⟩=false):w'.frozen? ⟨b,o,none⟩=false:=by
  rw[<-h]
  have:=hb.block b hl
  simp[World.frozen?,this]
def Half (w:World)(g n k:Nat)(es:List Ed):Prop:=
  g<w.heap.size/\(∀j,j<n*3->(∃v,w.cell? ⟨g,j,none⟩=some v)/\w.frozen? ⟨g,j,none⟩=false)/\
  ∀i (h:i<es.length),i<k->w.cell? ⟨g,i*3,none⟩=some (.string es[i].1)/\w.cell? ⟨g,i*3+1,none⟩=some (.string es[i].2.1)/\w.cell? ⟨g,i*3+2,none⟩=some (.string es[i].2.2)
theorem Half.later {w w':World}{g n k:Nat}{es:List Ed}(h:Half w g n k es)(hb:Below w.heap.size w w'):Half w' g n k es:=by
  refine⟨Nat.lt_of_lt_of_le h.1 hb.size,λj hj=>⟨?_,frozen_after hb h.1 (h.2.1 j hj).2⟩,λi hi hk=>?_⟩
  · obtain⟨v,hv⟩:=(h.2.1 j hj).1
    exact⟨v,cell_after hb hv⟩
  · obtain⟨h0,h1,h2⟩:=h.2.2 i hi hk
    exact⟨cell_after hb h0,cell_after hb h1,cell_after hb h2⟩
theorem Half.set {w:World}{g n k:Nat}{es:List Ed}(h:Half w g n k es)(hk:k<es.length)(hn:es.length=n):
    Half (((w.setCell ⟨g,k*3,none⟩ (.string es[k].1)).setCell ⟨g,k*3+1,none⟩ (.string es[k].2.1)).setCell ⟨g,k*3+2,none⟩ (.string es[k].2.2)) g n (k+1) es:=by
  obtain⟨hg,ha,hd⟩:=h
  have ne:∀{i j:Nat},i≠j->(⟨g,i,none⟩:Addr)≠⟨g,j,none⟩:=λh e=>h (by injection e)
  refine⟨by simpa[World.setCell] using hg,λj hj=>⟨?_,?_⟩,λi hi hik=>?_⟩
  · obtain⟨v,hv⟩:=(ha j hj).1
    obtain⟨v1,h1⟩:=cell?_setCell_some (p:=⟨g,k*3,none⟩) (x:=.string es[k].1) hv
    obtain⟨v2,h2⟩:=cell?_setCell_some (p:=⟨g,k*3+1,none⟩) (x:=.string es[k].2.1) h1
    exact cell?_setCell_some h2
  · rw[World.frozen?_setCell,World.frozen?_setCell,World.frozen?_setCell];exact(ha j hj).2
  · by_cases e:i=k
    · subst e
      obtain⟨v0,h0⟩:=(ha (i*3) (by omega)).1
      obtain⟨v1,h1⟩:=(ha (i*3+1) (by omega)).1
      obtain⟨v2,h2⟩:=(ha (i*3+2) (by omega)).1
      refine⟨?_,?_,?_⟩
      · rw[World.cell?_setCell_other _ _ _ _ (ne (by omega)),World.cell?_setCell_other _ _ _ _ (ne (by omega))]
        exact World.cell?_setCell_same _ _ _ h0
      · rw[World.cell?_setCell_other _ _ _ _ (ne (by omega))]
        exact World.cell?_setCell_same _ _ _ ((World.cell?_setCell_other _ _ _ _ (ne (by omega))).trans h1)
      · exact World.cell?_setCell_same _ _ _ ((World.cell?_setCell_other _ _ _ _ (ne (by omega))).trans ((World.cell?_setCell_other _ _ _ _ (ne (by omega))).trans h2))
    · obtain⟨h0,h1,h2⟩:=hd i hi (by omega)
      refine⟨?_,?_,?_⟩
      all_goals
        rw[World.cell?_setCell_other _ _ _ _ (ne (by omega)),World.cell?_setCell_other _ _ _ _ (ne (by omega)),World.cell?_setCell_other _ _ _ _ (ne (by omega))]
        assumption
theorem Half.made {w:World}{base n:Nat}{e:TypeId}{g:Nat}{xs:List Value}{es:List Ed}(h:w.ownsRow base e 3 (.slice (some ⟨g,0,none⟩) n n) n xs):Half w g n 0 es:=by
  rcases h.2 with ⟨hnil,_⟩|⟨g',cap',cur,hv,hb,hg,hnc,hcm,hcs,htk⟩
  · cases hnil
  cases hv
  have hl:g<w.heap.size:=(Array.getElem?_eq_some_iff.1 hg).1
  refine⟨hl,λj hj=>⟨⟨cur[j]'(by omega),?_⟩,?_⟩,λi _ h=>by omega⟩
  · simp[World.cell?,hg]
  · simp[World.frozen?,hg]
theorem ret_bool {a b:Bool}(h:a=b):Ending.returned (.bool a)=.returned (.bool b):=by rw[h]
theorem good_stop {α:Type}{ok:α->Bool}{key:α->ByteArray}{l:List α}{k:Nat}(hk:k<l.length)(h:¬ok l[k]=true):¬Good ok key l:=λhg=>h (hg.1 _ (List.getElem_mem hk))
theorem good_twice {α:Type}{ok:α->Bool}{key:α->ByteArray}{l:List α}{j k:Nat}(hk:k<l.length)(hj:j<k)(h:key (l[j]'(by omega))=key l[k]):¬Good ok key l:=λhg=>
  List.pairwise_iff_getElem.1 hg.2 j k (by omega) hk hj h
def EditsOK (l:List Ed):Prop:=1<=l.length/\l.length<=4/\Good okEd Prod.fst l
theorem edits_cells {w wr:World}{b off:Nat}{l:List Ed}(hb:Below w.heap.size w wr)(hlt:b<w.heap.size)(h0:∀i (h:i<l.length),w.cell? ⟨b,off+i*3,none⟩=some (.string l[i].1))(h1:∀i (h:i<l.length),w.cell? ⟨b,off+i*3+1,none⟩=some (.string l[i].2.1))(h2:∀i (h:i<l.length),w.cell? ⟨b,off+i*3+2,none⟩=some (.string l[i].2.2)):
    (∀i (h:i<l.length),wr.cell? ⟨b,off+i*3,none⟩=some (.string l[i].1))/\(∀i (h:i<l.length),wr.cell? ⟨b,off+i*3+1,none⟩=some (.string l[i].2.1))/\(∀i (h:i<l.length),wr.cell? ⟨b,off+i*3+2,none⟩=some (.string l[i].2.2))/\b<wr.heap.size:=
  ⟨λi h=>(hb.cell (by exact hlt)).trans (h0 i h),λi h=>(hb.cell (by exact hlt)).trans (h1 i h),λi h=>(hb.cell (by exact hlt)).trans (h2 i h),Nat.lt_of_lt_of_le hlt hb.size⟩
theorem files_cells {w wr:World}{b off:Nat}{l:List Fl}(hb:Below w.heap.size w wr)(hlt:b<w.heap.size)(h0:∀i (h:i<l.length),w.cell? ⟨b,off+i*2,none⟩=some (.string l[i].1))(h1:∀i (h:i<l.length),w.cell? ⟨b,off+i*2+1,none⟩=some (.string l[i].2)):
    (∀i (h:i<l.length),wr.cell? ⟨b,off+i*2,none⟩=some (.string l[i].1))/\(∀i (h:i<l.length),wr.cell? ⟨b,off+i*2+1,none⟩=some (.string l[i].2))/\b<wr.heap.size:=
  ⟨λi h=>(hb.cell (by exact hlt)).trans (h0 i h),λi h=>(hb.cell (by exact hlt)).trans (h1 i h),Nat.lt_of_lt_of_le hlt hb.size⟩
end Go.Proofs.YtgamgomepdfgdaaGreat
