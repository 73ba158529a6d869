import Derived.Lib.Walk
import Derived.Shelf.SlSortCmp.WholeK
import Derived.Lib.BufferWrite
import Derived.Lib.UnsafeStr
import Derived.Laws.MakeOwn
import Derived.Laws.CopyRow
import Derived.Sort.Grow
import Derived.Maps.OwnSet
import Derived.Maps.OwnOps
import Derived.Maps.RangeWalk
import Derived.Maps.AppendAt
import Derived.Lib.EndianBits
import Derived.Lib.AppendStr
import Derived.Test.YtgamgomepdfgdaaGreatFM01
set_option maxRecDepth 100000
set_option maxHeartbeats 8000000
namespace Go.Proofs.YtgamgomepdfgdaaGreat
open Go.RowKit Go.Proofs.Tryz
theorem compareString_any (a b:ByteArray)(w:World):
    Calls prog 222 #[.string a,.string b] w λe w'=>e=.returned (.int .i64 (Lib.compareBytes a.data.toList b.data.toList))/\w'=w:=by
  go_enter func222,ntmps222
  go_wp2
  rw[run_callFunc_extern func256 (by kernel_rfl) (by kernel_rfl) (by kernel_rfl) (e:=Extern.BytealgCompare.compare) (by kernel_rfl),Lib.run_compareString]
  simp only[Result.andThen]
  rw[Oper.upon_value]
  go_wp2
  go_ret
  exact⟨rfl,rfl⟩
theorem compare_any (a b:ByteArray)(w:World):
    Calls prog 187 #[.string a,.string b] w λe w'=>e=.returned (.int .i64 (Lib.compareBytes a.data.toList b.data.toList))/\w'=w:=by
  go_enter func187,ntmps187
  go_wp2_with (go_at_call 222;refine(compareString_any _ _ _).mono ?_;rintro e w' ⟨rfl,rfl⟩)
  go_ret
  exact⟨rfl,rfl⟩
theorem closure_cmp (p b q c:ByteArray)(w:World):
    Calls prog 186 #[.agg #[.string p,.string b],.agg #[.string q,.string c]] w λe w'=>e=.returned (.int .i64 (Lib.compareBytes p.data.toList q.data.toList))/\w'=(w.alloc (.cells #[.string p,.string b] 80)).alloc (.cells #[.string q,.string c] 80):=by
  have hc:=compare_any p q
  generalize Lib.compareBytes p.data.toList q.data.toList=r at hc ⊢
  go_enter func186,ntmps186
  go_wp2_with (go_at_call 187;refine(hc _).mono ?_;rintro e w' ⟨rfl,rfl⟩)
  go_ret
  exact⟨rfl,rfl⟩
section
open Go.Shelf
def Tryz.sortF_ren:Go.Shelf.Ren:=⟨fun|6=>185|15=>191|14=>221|28=>232|29=>233|20=>248|21=>249|22=>250|23=>251|24=>252|25=>253|26=>254|27=>255|46=>268|47=>258|48=>259|49=>269|50=>270|57=>277|n=>n,fun|22=>24|24=>80|25=>269|3=>3|39=>276|0=>0|53=>250|55=>256|4=>4|46=>305|45=>304|50=>309|5=>5|9=>9|66=>323|70=>327|76=>335|77=>336|n=>n,fun|n=>n⟩
theorem Tryz.sortF:Go.Proofs.SlLaysF0.n6 prog Tryz.sortF_ren:={
  mixed:=by kernel_rfl
  f6:=⟨Tryz.f185.name,by decide,func185.trans (congrArg some (by kernel_rfl))⟩
  f14:=⟨Tryz.f221.name,by decide,func221.trans (congrArg some (by kernel_rfl))⟩
  f15:=func191.trans (congrArg some (by kernel_rfl))
  f20:=⟨Tryz.f248.name,by decide,func248.trans (congrArg some (by kernel_rfl))⟩
  f21:=⟨Tryz.f249.name,by decide,func249.trans (congrArg some (by kernel_rfl))⟩
  f22:=⟨Tryz.f250.name,by decide,func250.trans (congrArg some (by kernel_rfl))⟩
  f23:=⟨Tryz.f251.name,by decide,func251.trans (congrArg some (by kernel_rfl))⟩
  f24:=⟨Tryz.f252.name,by decide,func252.trans (congrArg some (by kernel_rfl))⟩
  f25:=⟨Tryz.f253.name,by decide,func253.trans (congrArg some (by kernel_rfl))⟩
  f26:=⟨Tryz.f254.name,by decide,func254.trans (congrArg some (by kernel_rfl))⟩
  f27:=⟨Tryz.f255.name,by decide,func255.trans (congrArg some (by kernel_rfl))⟩
  f28:=func232.trans (congrArg some (by kernel_rfl))
  f29:=func233.trans (congrArg some (by kernel_rfl))
  f46:=⟨Tryz.f268.name,by decide,func268.trans (congrArg some (by kernel_rfl))⟩
  f47:=func258.trans (congrArg some (by kernel_rfl))
  f48:=func259.trans (congrArg some (by kernel_rfl))
  f49:=⟨Tryz.f269.name,by decide,func269.trans (congrArg some (by kernel_rfl))⟩
  f50:=⟨Tryz.f270.name,by decide,func270.trans (congrArg some (by kernel_rfl))⟩
  f57:=⟨Tryz.f277.name,by decide,func277.trans (congrArg some (by kernel_rfl))⟩
  t0:=underlying0
  a0:=Tryz.isAgg0
  z0:=Tryz.sizeOf0
  v0:=Tryz.zeroValue0
  t3:=underlying3
  a3:=Tryz.isAgg3
  z3:=Tryz.sizeOf3
  v3:=Tryz.zeroValue3
  t4:=underlying4
  a4:=Tryz.isAgg4
  z4:=Tryz.sizeOf4
  v4:=Tryz.zeroValue4
  t5:=underlying5
  a5:=Tryz.isAgg5
  z5:=Tryz.sizeOf5
  v5:=Tryz.zeroValue5
  t9:=underlying9
  a9:=Tryz.isAgg9
  z9:=Tryz.sizeOf9
  v9:=Tryz.zeroValue9
  t22:=underlying24
  a22:=Tryz.isAgg24
  z22:=Tryz.sizeOf24
  v22:=Tryz.zeroValue24
  t25:=underlying269
  a25:=Tryz.isAgg269
  z25:=Tryz.sizeOf269
  v25:=Tryz.zeroValue269
  t39:=underlying276
  a39:=Tryz.isAgg276
  z39:=Tryz.sizeOf276
  v39:=Tryz.zeroValue276
  t45:=underlying304
  a45:=Tryz.isAgg304
  z45:=Tryz.sizeOf304
  v45:=Tryz.zeroValue304
  t46:=underlying305
  a46:=Tryz.isAgg305
  z46:=Tryz.sizeOf305
  v46:=Tryz.zeroValue305
  t50:=underlying309
  a50:=Tryz.isAgg309
  z50:=Tryz.sizeOf309
  v50:=Tryz.zeroValue309
  t53:=underlying250
  a53:=Tryz.isAgg250
  z53:=Tryz.sizeOf250
  v53:=Tryz.zeroValue250
  t55:=underlying256
  a55:=Tryz.isAgg256
  z55:=Tryz.sizeOf256
  v55:=Tryz.zeroValue256
  t66:=underlying323
  a66:=Tryz.isAgg323
  z66:=Tryz.sizeOf323
  v66:=Tryz.zeroValue323
  t70:=underlying327
  a70:=Tryz.isAgg327
  z70:=Tryz.sizeOf327
  v70:=Tryz.zeroValue327
  t76:=underlying335
  a76:=Tryz.isAgg335
  z76:=Tryz.sizeOf335
  v76:=Tryz.zeroValue335
  t77:=underlying336
  a77:=Tryz.isAgg336
  z77:=Tryz.sizeOf336
  v77:=Tryz.zeroValue336}
end
theorem isText_any (s:ByteArray)(w:World):
    Calls prog 215 #[.string s] w λe w'=>e=.returned (.bool (okText s))/\w'=w:=by
  go_enter func215,ntmps215
  go_wp2
  go_ret
  refine⟨?_,rfl⟩
  have e:decide ((s.size:Int)<=8)=okText s:=by unfold okText;rw[decide_eq_decide];omega
  rw[<-e];rfl
theorem isFilled_any (s:ByteArray)(w:World):
    Calls prog 174 #[.string s] w λe w'=>e=.returned (.bool (okFill s))/\w'=w:=by
  go_enter func174,ntmps174
  go_wp2_with (go_at_call 215;refine(isText_any _ _).mono ?_;rintro e w' ⟨rfl,rfl⟩)
  all_goals
    go_ret
    refine⟨?_,rfl⟩
    have e:okFill s=(!s.toList.isEmpty&&okText s):=rfl
    rw[e]
  · simp[*]
  · rfl
theorem fileMayBe_any (p b:ByteArray)(w:World):
    Calls prog 127 #[.agg #[.string p,.string b]] w λe w'=>e=.returned (.bool (okFill p&&okFill b))/\Below w.heap.size w w':=by
  go_enter func127,ntmps127
  go_wp2_with (go_at_call 174;refine(isFilled_any _ _).mono ?_;rintro e w' ⟨rfl,rfl⟩)
  · have h:okFill p=true:=by assumption
    go_ret
    exact⟨by rw[h];rfl,(Below.refl _ _).alloc (Nat.le_refl _) _⟩
  · have h:okFill p=false:=by simpa using ‹¬okFill p=true›
    go_ret
    exact⟨by rw[h];rfl,(Below.refl _ _).alloc (Nat.le_refl _) _⟩
theorem editMayBe_any (p o n:ByteArray)(w:World):
    Calls prog 263 #[.agg #[.string p,.string o,.string n]] w λe w'=>e=.returned (.bool (okEdit p o n))/\Below w.heap.size w w':=by
  go_enter func263,ntmps263
  go_wp2_with (first|(go_at_call 174;refine(isFilled_any _ _).mono ?_;rintro e w' ⟨rfl,rfl⟩)|(go_at_call 215;refine(isText_any _ _).mono ?_;rintro e w' ⟨rfl,rfl⟩))
  all_goals
    go_ret
    refine⟨?_,(Below.refl _ _).alloc (Nat.le_refl _) _⟩
    have e:okEdit p o n=(okFill p&&okText o&&okText n&& !(o.toList==n.toList)):=rfl
    rw[e]
    simp[*]
theorem closure_names (p o n q:ByteArray)(bk:Nat)(w:World)(hq:w.cell? ⟨bk,0,none⟩=some (.string q))(hb:bk<w.heap.size):
    Calls prog 274 #[.agg #[.string p,.string o,.string n],.pointer (some ⟨bk,0,none⟩)] w λe w'=>e=.returned (.bool (p.toList==q.toList))/\w'=w.alloc (.cells #[.string p,.string o,.string n] 49):=by
  go_enter func274,ntmps274
  go_wp2
  go_ret
  exact⟨rfl,rfl⟩
theorem info_byte:(prog.info? 5).map (λi=>(i.zero,i.size,i.bytes))=some (some (.int .u8 0),1,1):=by kernel_rfl
theorem clone_in (s:ByteArray)(w:World)(hlim:s.size<=281474976710656):
    Calls prog 175 #[.string s] w λe w'=>e=.returned (.string s)/\Below w.heap.size w w':=by
  by_cases h0:s.size=0
  · obtain rfl:s=⟨#[]⟩:=ByteArray.ext (Array.eq_empty_of_size_eq_zero h0)
    go_enter func175,ntmps175
    go_wp2
    go_ret
    exact⟨rfl,Below.refl _ _⟩
  · obtain⟨i0,hi,hz0,hz1,hz2⟩:=info_parts info_byte
    have hinfo:(prog.info? 5).map (·.size)=some 1:=by rw[hi];simp[hz1]
    have hco:prog.cellsOf 5=1:=by simp[Program.cellsOf,hi,hz1]
    obtain⟨M,hM⟩:∃M,M=madeCells (Value.int .u8 0).cells (((s.size:Nat):Int).toNat*i0.size):=⟨_,rfl⟩
    have hMs:M.size=s.size:=by rw[hM,size_madeCells,hz1];simp
    have hmk:∀W:World,(Instr.makeSlice 114 (.int .i64 (s.size:Int)) (.int .i64 (s.size:Int))).run prog W=.ok (.slice (some ⟨W.heap.size,0,none⟩) s.size s.size) (W.alloc (.cells M 5)):=λW=>by
      have h:=run_make (P:=prog) W 114 5 i0 (.int .u8 0) underlying114 hi hz0 .i64 .i64 (s.size:Int) (s.size:Int) (by omega) (by omega) (by rw[hz2];omega) (by omega)
      rw[<-hM] at h
      simpa using h
    clear hM
    have hcp:=Lib.run_copy_row_string (P:=prog) (w.alloc (.cells M 5)) 114 9 3 5 w.heap.size 0 s.size s.size s M 5 underlying114 hinfo (heap_alloc_new w _) (Nat.le_refl _) (by omega)
    obtain⟨Y,hY⟩:∃Y,Y=(M.toList.take 0++Lib.byteCells s.data.toList++M.toList.drop (0+s.size)).toArray:=⟨_,rfl⟩
    rw[<-hY] at hcp
    have hYl:Y.toList=Lib.byteCells s.data.toList:=by
      rw[hY,List.toList_toArray,List.take_zero,List.nil_append,List.drop_of_length_le (by rw[Array.length_toList];omega),List.append_nil]
    have hYs:Y.size=s.size:=by rw[<-Array.length_toList,hYl,Lib.byteCells_length,<-Lib.size_eq]
    have hgY:((w.alloc (.cells M 5)).setRow w.heap.size Y).heap[w.heap.size]? =some (.cells Y 5 (0,0)):=setRow_heap _ _ M _ 5 (0,0) (heap_alloc_new w _)
    have hne:s.data.toList≠[]:=λe=>h0 (by rw[Lib.size_eq,e];rfl)
    have hUS:=Lib.run_unsafeString_row (P:=prog) ((w.alloc (.cells M 5)).setRow w.heap.size Y) 296 3 9 5 underlying296 hco w.heap.size Y.size (by unfold World.shape?;rw[hgY]) s.data.toList hne (by rw[<-Lib.size_eq];omega) (by rw[<-Lib.size_eq];omega)
      (λj x hx=>Lib.cells_of_row hgY Y.size j _ (by rw[List.take_of_length_le (by rw[Array.length_toList];exact Nat.le_refl _),hYl];simp[Lib.byteCells,hx]))
    rw[<-Lib.size_eq] at hUS
    clear hY
    go_enter func175,ntmps175
    go_wp2
    go_ret
    have hb1:Below w.heap.size w (w.alloc (.cells M 5)):=(Below.refl _ w).alloc (Nat.le_refl _) _
    have hb2:Below w.heap.size (w.alloc (.cells M 5)) ((w.alloc (.cells M 5)).setRow w.heap.size Y):=⟨rfl,rfl,rfl,by simp,λk hk=>setRow_other _ _ _ _ (by omega)⟩
    exact⟨rfl,Lib.below_freeze (hb1.trans hb2) (p:=⟨w.heap.size,0,none⟩) (Nat.le_refl _) _⟩
theorem clone_any (s:ByteArray)(w:World)(hlim:s.size<=281474976710656):
    Calls prog 129 #[.string s] w λe w'=>e=.returned (.string s)/\Below w.heap.size w w':=by
  have hc:=clone_in s w hlim
  go_enter func129,ntmps129
  go_wp2_with (go_at_call 175;refine hc.mono ?_;rintro e w' ⟨rfl,hb⟩)
  go_ret
  exact⟨rfl,hb⟩
theorem cell_lt {w:World}{b o:Nat}{v:Value}(h:w.cell? ⟨b,o,none⟩=some v):b<w.heap.size:=by
  by_cases hb:b<w.heap.size
  · exact hb
  · have:w.heap[b]? =none:=Array.getElem?_eq_none (by omega)
    simp[World.cell?,this] at h
theorem cell_after {w w':World}{b o:Nat}{v:Value}(hb:Below w.heap.size w w')(h:w.cell? ⟨b,o,none⟩=some v):w'.cell? ⟨b,o,none⟩=some v:=
  (World.cell?_of_block (w:=w) (hb.block b (cell_lt h))).trans h
theorem frozen_after {w w':World}{b o:Nat}(hb:Below w.heap.size w w')(hl:b<w.heap.size)(h:w.frozen? ⟨b,o,none⟩=false):w'.frozen? ⟨b,o,none⟩=false:=by
  rw[<-h]
  have:=hb.block b hl
  simp[World.frozen?,this]
def Half (w:World)(g n k:Nat)(es:List Ed):Prop:=
  g<w.heap.size/\(∀j,j<n*3->(∃v,w.cell? ⟨g,j,none⟩=some v)/\w.frozen? ⟨g,j,none⟩=false)/\
  ∀i (h:i<es.length),i<k->w.cell? ⟨g,i*3,none⟩=some (.string es[i].1)/\w.cell? ⟨g,i*3+1,none⟩=some (.string es[i].2.1)/\w.cell? ⟨g,i*3+2,none⟩=some (.string es[i].2.2)
theorem Half.later {w w':World}{g n k:Nat}{es:List Ed}(h:Half w g n k es)(hb:Below w.heap.size w w'):Half w' g n k es:=by
  refine⟨Nat.lt_of_lt_of_le h.1 hb.size,λj hj=>⟨?_,frozen_after hb h.1 (h.2.1 j hj).2⟩,λi hi hk=>?_⟩
  · obtain⟨v,hv⟩:=(h.2.1 j hj).1
    exact⟨v,cell_after hb hv⟩
  · obtain⟨h0,h1,h2⟩:=h.2.2 i hi hk
    exact⟨cell_after hb h0,cell_after hb h1,cell_after hb h2⟩
theorem Half.set {w:World}{g n k:Nat}{es:List Ed}(h:Half w g n k es)(hk:k<es.length)(hn:es.length=n):
    Half (((w.setCell ⟨g,k*3,none⟩ (.string es[k].1)).setCell ⟨g,k*3+1,none⟩ (.string es[k].2.1)).setCell ⟨g,k*3+2,none⟩ (.string es[k].2.2)) g n (k+1) es:=by
  obtain⟨hg,ha,hd⟩:=h
  have ne:∀{i j:Nat},i≠j->(⟨g,i,none⟩:Addr)≠⟨g,j,none⟩:=λh e=>h (by injection e)
  refine⟨by simpa[World.setCell] using hg,λj hj=>⟨?_,?_⟩,λi hi hik=>?_⟩
  · obtain⟨v,hv⟩:=(ha j hj).1
    obtain⟨v1,h1⟩:=cell?_setCell_some (p:=⟨g,k*3,none⟩) (x:=.string es[k].1) hv
    obtain⟨v2,h2⟩:=cell?_setCell_some (p:=⟨g,k*3+1,none⟩) (x:=.string es[k].2.1) h1
    exact cell?_setCell_some h2
  · rw[World.frozen?_setCell,World.frozen?_setCell,World.frozen?_setCell];exact(ha j hj).2
  · by_cases e:i=k
    · subst e
      obtain⟨v0,h0⟩:=(ha (i*3) (by omega)).1
      obtain⟨v1,h1⟩:=(ha (i*3+1) (by omega)).1
      obtain⟨v2,h2⟩:=(ha (i*3+2) (by omega)).1
      refine⟨?_,?_,?_⟩
      · rw[World.cell?_setCell_other _ _ _ _ (ne (by omega)),World.cell?_setCell_other _ _ _ _ (ne (by omega))]
        exact World.cell?_setCell_same _ _ _ h0
      · rw[World.cell?_setCell_other _ _ _ _ (ne (by omega))]
        exact World.cell?_setCell_same _ _ _ ((World.cell?_setCell_other _ _ _ _ (ne (by omega))).trans h1)
      · exact World.cell?_setCell_same _ _ _ ((World.cell?_setCell_other _ _ _ _ (ne (by omega))).trans ((World.cell?_setCell_other _ _ _ _ (ne (by omega))).trans h2))
    · obtain⟨h0,h1,h2⟩:=hd i hi (by omega)
      refine⟨?_,?_,?_⟩
      all_goals
        rw[World.cell?_setCell_other _ _ _ _ (ne (by omega)),World.cell?_setCell_other _ _ _ _ (ne (by omega)),World.cell?_setCell_other _ _ _ _ (ne (by omega))]
        assumption
theorem Half.made {w:World}{base n:Nat}{e:TypeId}{g:Nat}{xs:List Value}{es:List Ed}(h:w.ownsRow base e 3 (.slice (some ⟨g,0,none⟩) n n) n xs):Half w g n 0 es:=by
  rcases h.2 with ⟨hnil,_⟩|⟨g',cap',cur,hv,hb,hg,hnc,hcm,hcs,htk⟩
  · cases hnil
  cases hv
  have hl:g<w.heap.size:=(Array.getElem?_eq_some_iff.1 hg).1
  refine⟨hl,λj hj=>⟨⟨cur[j]'(by omega),?_⟩,?_⟩,λi _ h=>by omega⟩
  · simp[World.cell?,hg]
  · simp[World.frozen?,hg]
theorem run_copy_rowK {P:Program}(w:World)(dT sT ty elem:TypeId)(size:Nat)(g dLen dCap:Nat)(a:Addr)(sLen sCap:Nat)(cur:Array Value)(t:TypeId)(cs:List Value)(hu:P.underlying dT=some (.slice elem))(hs:(P.info? elem).map (·.size)=some size)(hg:w.heap[g]? =some (.cells cur t (0,0)))(hle:sLen<=dLen)(hn:cs.length=sLen*size)(hsrc:∀j v,cs[j]? =some v->w.cell? (a.add j)=some v)(hfit:cs.length<=cur.size)(h1:∀v∈cs,v.oneCell'=true):
    (Builtin.copy_ #[dT,sT] ty #[.slice (some ⟨g,0,none⟩) dLen dCap,.slice (some a) sLen sCap]).run P w=
      .ok (goInt sLen) (w.setRow g (cs++cur.toList.drop cs.length).toArray):=by
  have hl:=run_loadCells_list (P:=P) w a cs hsrc
  have hst:=run_storeCells_at P g 0 t cs 0 cur w hg (by simpa using hfit) h1
  have hmin:Nat.min sLen dLen=sLen:=Nat.min_eq_left hle
  cases hq:P.info? elem with
  |none=>simp[hq] at hs
  |some i=>
    have hi:i.size=size:=by simpa[hq] using hs
    simp[Builtin.copy_,run_underlying hu,Builtin.lenOf,Builtin.firstCells,sizeOf,typeInfo,hq,hi,hmin]
    rw[<-hn,hl]
    simp at hst
    simp[hst]
theorem run_copy_zeroK {P:Program}(w:World)(dT sT ty elem:TypeId)(size:Nat)(d a:Option Addr)(dLen dCap sCap:Nat)(hu:P.underlying dT=some (.slice elem))(hs:(P.info? elem).map (·.size)=some size):
    (Builtin.copy_ #[dT,sT] ty #[.slice d dLen dCap,.slice a 0 sCap]).run P w=.ok (goInt 0) w:=by
  have hl:∀a,Sem.run P (loadCells a 0) w=.ok #[] w:=λa=>run_loadCells_list (P:=P) w a [] (by simp)
  cases hq:P.info? elem with
  |none=>simp[hq] at hs
  |some i=>cases d<;>cases a<;>simp[Builtin.copy_,run_underlying hu,Builtin.lenOf,Builtin.firstCells,sizeOf,typeInfo,hq,storeCells,hl]
theorem wpList_copyK {P:Program}(w:World){ops:Array Oper}{rest:List Oper}{o:Oper}{a:Act}{Q:Exit->Act->World->Prop}(hgd:o.guard=none)(d s:Operand)(dT sT:TypeId)(ho:o.op=.call {callee:=.builtin .copy,args:=#[d,s],argTypes:=#[dT,sT]})(elem:TypeId)(size base:Nat)(hu:P.underlying dT=some (.slice elem))(hs:(P.info? elem).map (·.size)=some size)(g m:Nat)(sp:Option Addr)(n sCap:Nat)(hd:a.eval d=.slice (some ⟨g,0,none⟩) m m)(hsv:a.eval s=.slice sp n sCap)(hle:n<=m)(xs:List Value)(hown:w.ownsRow base elem size (.slice (some ⟨g,0,none⟩) m m) m xs)(cs:List Value)(hn:cs.length=n*size)(hsrc:0<n->∃ad,sp=some ad/\∀j v,cs[j]? =some v->w.cell? (ad.add j)=some v)(h1:∀v∈cs,v.oneCell'=true)(h:∀w',w'.ownsRow base elem size (.slice (some ⟨g,0,none⟩) m m) m (cs++xs.drop cs.length)->w.grownBy w' (some g)->wpList P ops Q rest (a.put o.dst (goInt n)) w'):wpList P ops Q (o::rest) a w:=by
  refine wpList_plain hgd λK hK=>?_
  by_cases h0:n=0
  · subst h0
    obtain rfl:cs=[]:=List.eq_nil_of_length_eq_zero (by simpa using hn)
    have hrun:=run_copy_zeroK (P:=P) w dT sT o.type elem size (some ⟨g,0,none⟩) sp m m sCap hu hs
    unfold Oper.wp
    simp[execOp,ho,resolve,invoke,builtin,hd,hsv,hrun,Result.andThen]
    exact hK _ _ (h w (by simpa using hown) (World.grownBy.refl _ _))
  · obtain⟨ad,rfl,hc⟩:=hsrc (by omega)
    rcases hown.2 with ⟨hnil,_⟩|⟨g',cap',cur,hv,hb,hg,hnc,hcm,hcs,htk⟩
    · cases hnil
    cases hv
    have hlen:cs.length<=cur.size:=by rw[hn,hcs];exact Nat.mul_le_mul_right size hle
    have hrun:=run_copy_rowK (P:=P) w dT sT o.type elem size g m m ad n sCap cur elem cs hu hs hg hle hn hc hlen h1
    unfold Oper.wp
    simp[execOp,ho,resolve,invoke,builtin,hd,hsv,hrun,Result.andThen]
    have hxs:cur.toList=xs:=by rw[<-htk,List.take_of_length_le (by rw[Array.length_toList,hcs];exact Nat.le_refl _)]
    rw[hxs]
    refine hK _ _ (h _ ⟨?_,.inr ⟨g,m,_,rfl,hb,setRow_heap w g cur _ elem _ hg,Nat.le_refl _,hcm,?_,?_⟩⟩ ⟨rfl,rfl,rfl,by simp[World.setRow],λk hk hne=>setRow_other w g k _ (λe=>hne (by rw[e]))⟩)
    · have hx:=hown.1
      rw[List.length_append,List.length_drop];have:cs.length<=xs.length:=by rw[<-hxs,Array.length_toList];exact hlen
      omega
    · have hx:=hown.1
      have:cs.length<=xs.length:=by rw[<-hxs,Array.length_toList];exact hlen
      simp;omega
    · have hx:=hown.1
      have:cs.length<=xs.length:=by rw[<-hxs,Array.length_toList];exact hlen
      rw[List.take_of_length_le (by simp;omega)]
section
open Go.Sort Go.Shelf
theorem flat_eq (l:List Fl):(flatK cF 2 l.toArray).toList=l.flatMap cF:=by
  apply List.ext_getElem?
  intro t
  by_cases ht:t<l.length*2
  · have h1:t/2<l.length:=by omega
    have e:t=t/2*2+t%2:=by omega
    have hr:(l.flatMap cF)[t]? =(cF l[t/2])[t%2]? :=by
      conv=>lhs;rw[e]
      exact flat_get cF 2 (λ_=>rfl) l (t/2) (t%2) h1 (by omega)
    have hs:t<(flatK cF 2 l.toArray).size:=by rw[size_flatK];simpa using ht
    rw[hr,Array.getElem?_toList,Array.getElem?_eq_getElem hs,<-getElem!_pos _ t hs,get_flatK _ _ _ t (by simpa using ht)]
    have e2:(l.toArray)[t/2]! =l[t/2]:=by rw[getElem!_pos l.toArray (t/2) (by simpa using h1)];simp
    rw[e2]
    have h2:t%2<(cF l[t/2]).length:=by show t%2<2;omega
    rw[getElem!_pos (cF l[t/2]) (t%2) h2,List.getElem?_eq_getElem h2]
  · rw[List.getElem?_eq_none (by rw[Array.length_toList,size_flatK];simp;omega),List.getElem?_eq_none (by rw[flat_len cF 2 (λ_=>rfl)];omega)]
theorem flat_size (l:List Fl):(flatK cF 2 l.toArray).size=l.length*2:=by rw[size_flatK];simp
theorem holdsK_row {w:World}{g:Nat}{cur:Array Value}{e:TypeId}{l:List Fl}(hb:w.heap[g]? =some (.cells cur e (0,0)))(ht:cur.toList.take (l.length*2)=l.flatMap cF):HoldsK cF 2 w g 0 l.toArray:=by
  intro j hj
  have hj':j<l.length*2:=by rw[flat_size] at hj;exact hj
  refine⟨?_,by simp[World.frozen?,hb]⟩
  have h1:(cur.toList.take (l.length*2))[j]? =(flatK cF 2 l.toArray).toList[j]? :=by rw[ht,flat_eq]
  rw[List.getElem?_take_of_lt hj',Array.getElem?_toList,Array.getElem?_toList,Array.getElem?_eq_getElem hj] at h1
  simp only[World.cell?,hb,Nat.zero_add]
  simp only[Option.isSome_none,Bool.false_eq_true,if_false]
  rw[h1,getElem!_pos (flatK cF 2 l.toArray) j hj]
  rfl
theorem heap_sortedK {w:World}{g n:Nat}{os:Array Obj}{cur:Array Value}{e:TypeId}{fr:Nat×Nat}(d:Array Fl)(hb:w.heap[g]? =some (.cells cur e fr)):
    (sortWorldK cF 2 w g 0 n d os).heap[g]? =some (.cells (putCells id 0 (flatK cF 2 d) cur) e fr):=by
  have hg:g<w.heap.size:=(Array.getElem?_eq_some_iff.1 hb).1
  unfold sortWorldK putRowK
  rw[heap_grow_old _ _ (by simpa[putRow,mapBlock,Sort.ahead] using hg)]
  simp[putRow,mapBlock,Sort.ahead,Array.getElem?_modify,hb,onCells]
theorem grownBy_sortedK {w:World}{g n:Nat}{os:Array Obj}(d:Array Fl):w.grownBy (sortWorldK cF 2 w g 0 n d os) (some g):=by
  unfold sortWorldK putRowK
  refine⟨rfl,rfl,rfl,by simp[putRow,mapBlock,Sort.ahead,grow],λk hk hne=>?_⟩
  rw[heap_grow_old _ _ (by simpa[putRow,mapBlock,Sort.ahead] using hk)]
  have:g≠k:=λe=>hne (by rw[e])
  simp[putRow,mapBlock,Sort.ahead,Array.getElem?_modify,this]
theorem take_putCellsK (cur F:Array Value)(h:F.size<=cur.size):(putCells id 0 F cur).toList.take F.size=F.toList:=by
  apply List.ext_getElem?
  intro j
  by_cases hj:j<F.size
  · rw[List.getElem?_take_of_lt hj,Array.getElem?_toList,Array.getElem?_toList]
    simp[putCells,hj,show j<cur.size by omega]
  · rw[List.getElem?_take_eq_none (by omega),List.getElem?_eq_none (by simp;omega)]
theorem ownsRow_sortedK {w:World}{base g cap n:Nat}{e:TypeId}{os:Array Obj}{cur:Array Value}{ss ts:List Fl}(hl:ts.length=ss.length)(hbase:base<=g)(hb:w.heap[g]? =some (.cells cur e (0,0)))(h1:ss.length<=cap)(h2:cap<=maxLen)(h3:cur.size=cap*2):
    (sortWorldK cF 2 w g 0 n ts.toArray os).ownsRow base e 2 (.slice (some ⟨g,0,none⟩) ss.length cap) ss.length (ts.flatMap cF):=by
  refine⟨by rw[flat_len cF 2 (λ_=>rfl),hl],.inr ⟨g,cap,_,rfl,hbase,heap_sortedK _ hb,h1,h2,by simp[putCells,h3],?_⟩⟩
  rw[<-hl,<-flat_size ts,<-flat_eq ts]
  exact take_putCellsK cur _ (by rw[flat_size];omega)
def cmpF (x y:Fl):Int:=Lib.compareBytes x.1.data.toList y.1.data.toList
theorem compareBytes_neg:∀(a b:List UInt8),Lib.compareBytes a b<0↔a<b
  |[],[]=>by simp[Lib.compareBytes]
  |[],_::_=>by simp[Lib.compareBytes]
  |_::_,[]=>by simp[Lib.compareBytes]
  |a::x,b::y=>by
    unfold Lib.compareBytes
    rw[List.cons_lt_cons_iff]
    by_cases h1:a<b
    · simp[h1]
    · by_cases h2:b<a
      · have:a≠b:=λe=>by subst e;exact absurd h2 h1
        simp[h1,h2,this]
      · have:a=b:=UInt8.le_antisymm (UInt8.not_lt.1 h2) (UInt8.not_lt.1 h1)
        simp[this,compareBytes_neg x y]
theorem ltF (x y:Fl):ltOf cmpF x y=decide (x.1.data.toList<y.1.data.toList):=by
  unfold ltOf cmpF;rw[decide_eq_decide];exact compareBytes_neg _ _
theorem swoF:SWO (ltOf cmpF) where
  irrefl x:=by rw[ltF];simp
  trans x y z h1 h2:=by rw[ltF] at *;simp at *;exact List.lt_trans h1 h2
  ntrans x y z h1 h2:=by
    rw[ltF] at *
    simp only[decide_eq_false_iff_not,List.not_lt] at *
    exact List.le_trans h2 h1
theorem cmpLaysF (blk off size:Nat)(w:World):CmpLays prog 186 #[] cF 2 cmpF blk off size w:=by
  intro m os dk _ x y
  refine(closure_cmp x.1 x.2 y.1 y.2 _).mono ?_
  rintro e w' ⟨rfl,rfl⟩
  exact⟨rfl,0,_,by rw[alloc_eq_grow,alloc_eq_grow,grow_grow];rfl⟩
theorem sort_any (l:List Fl)(g cap base:Nat)(w:World)(hrow:w.ownsRow base 80 2 (.slice (some ⟨g,0,none⟩) l.length cap) l.length (l.flatMap cF))(hn:l.length<8796093022208):
    Calls prog 185 #[.slice (some ⟨g,0,none⟩) l.length cap,.func (.func 186) #[] #[]] w λe w'=>
      e=.returned (.tuple #[])/\(∃l':List Fl,l'.Perm l/\l'.Pairwise (λa b=>¬b.1.data.toList<a.1.data.toList)/\w'.ownsRow base 80 2 (.slice (some ⟨g,0,none⟩) l'.length cap) l'.length (l'.flatMap cF))/\w.grownBy w' (some g):=by
  rcases hrow.2 with ⟨hnil,_⟩|⟨g',cap',cur,hv,hbase,hb,h1,h2,h3,h4⟩
  · cases hnil
  cases hv
  have eg:∀args w,(callFunc 186 args).run prog w=.ok (.enter 186 args) w:=enters_of func186 (by kernel_rfl) rfl
  have hcon:=AnyQ.slices_SortFunc Tryz.sortF 2 Tryz.isAgg80 Tryz.sizeOf80 cF (λ_=>rfl) (λx v hv=>by simp[cF] at hv;rcases hv with rfl|rfl<;>rfl) cmpF swoF 186 #[] g 0 cap l.toArray w eg (cmpLaysF g 0 _ w) (holdsK_row hb h4) (Array.getElem?_eq_some_iff.1 hb).1 (by simp;omega)
  have hcon':Calls prog 185 #[.slice (some ⟨g,0,none⟩) l.length cap,.func (.func 186) #[] #[]] w _:=hcon
  refine hcon'.mono ?_
  rintro e w' ⟨rfl,d',n,os,hp,hs,rfl⟩
  have hsz:d'.size=l.length:=by simpa using hp.1
  have e1:d'=d'.toList.toArray:=by simp
  have hperm:d'.toList.Perm l:=by
    have h:=hp.2.2
    have e2:d'.extract 0 l.toArray.size=d':=by rw[List.size_toArray,<-hsz];exact Array.extract_size
    have e3:l.toArray.extract 0 l.toArray.size=l.toArray:=Array.extract_size
    rw[e2,e3] at h
    exact h
  refine⟨rfl,⟨d'.toList,hperm,?_,?_⟩,grownBy_sortedK _⟩
  · rw[List.pairwise_iff_getElem]
    intro i j hi hj hij
    have:=hs i j (Nat.zero_le _) hij (by simp only[List.size_toArray];rw[Array.length_toList] at hj;omega)
    rw[ltF,decide_eq_false_iff_not] at this
    rw[Array.length_toList] at hi hj
    rw[getElem!_pos d' i hi,getElem!_pos d' j hj] at this
    simpa using this
  · rw[e1]
    have hl:d'.toList.length=l.length:=by rw[Array.length_toList];exact hsz
    have:=ownsRow_sortedK (w:=w) (base:=base) (g:=g) (cap:=cap) (n:=n) (e:=80) (os:=os) (cur:=cur) (ss:=l) (ts:=d'.toList) hl hbase hb h1 h2 h3
    simpa[hl,hsz] using this
end
def pathB (k:Nat):ByteArray:=strOfNums [97+(k:Int)%26,97+(k:Int)/26%26,97+(k:Int)/676]
theorem alike_none (a a':Option Addr)(cap cap':Nat)(w:World):
    Calls prog 65 #[.slice a 0 cap,.slice a' 0 cap'] w λe w'=>e=.returned (.bool true)/\Drew w w':=by
  go_enter func65,ntmps65
  go_wp2
  go_loop [5] (λi=>i=.int .i64 0) (λ_=>0)
  case atStart=>rfl
  case round=>
    subst hrel
    go_wp2
    go_ret
    exact⟨rfl,.refl _⟩
section
open Go.Maps
def fd (p b:ByteArray):DataW Unit:=.agg [.lit (.string p.data.toList),.lit (.string b.data.toList)]
theorem fd_inj {p b q c:ByteArray}(h:fd p b=fd q c):p=q/\b=c:=by
  simp only[fd,DataW.agg.injEq,List.cons.injEq,DataW.lit.injEq,Lit.string.injEq,and_true] at h
  exact⟨eq_of_data h.1,eq_of_data h.2⟩
def fileElem:Value->Option (DataW Unit×List MemPlace)
  |.agg ⟨[.string p,.string b]⟩=>some (fd p b,[])
  |_=>none
theorem fileElem_mk (p b:ByteArray):fileElem (.agg #[.string p,.string b])=some (fd p b,[]):=rfl
theorem fileElem_inv {v:Value}{y:DataW Unit×List MemPlace}(h:fileElem v=some y):∃p b,v=.agg #[.string p,.string b]/\y=(fd p b,[]):=by
  unfold fileElem at h
  split at h
  · rename_i p b
    exact⟨p,b,rfl,(Option.some.inj h).symm⟩
  · cases h
abbrev kl (s:ByteArray):Lit:=.string s.data.toList
theorem kl_inj {s t:ByteArray}(h:kl s=kl t):s=t:=eq_of_data (Lit.string.inj h)
def MapIs (D:DataW Unit)(g:ByteArray->ByteArray):Prop:=
  ∀s,(g s=⟨#[]⟩->Maps.has D (kl s)=false)/\(g s≠⟨#[]⟩->Maps.has D (kl s)=true/\∀z,D.atKey (kl s) z=fd s (g s))
theorem MapIs.made:MapIs (.map []) λ_=>⟨#[]⟩:=λ_=>⟨λ_=>rfl,λh=>absurd rfl h⟩
theorem MapIs.put {D:DataW Unit}{g:ByteArray->ByteArray}(h:MapIs D g)(hD:IsMap D)(p:ByteArray){b:ByteArray}(hb:b≠⟨#[]⟩):MapIs (D.put (kl p) (fd p b)) (upd g p b):=by
  intro s
  by_cases e:p=s
  · subst e
    rw[upd_same]
    exact⟨λx=>absurd x hb,λ_=>⟨has_put_same hD (show WideAt.IsKeyLit (kl p) from trivial) _,λz=>atKey_put_same hD (show WideAt.IsKeyLit (kl p) from trivial) _ z⟩⟩
  · rw[upd_other _ _ e]
    have hne:kl s≠kl p:=λx=>e (kl_inj x).symm
    rw[has_put_other hne]
    exact⟨(h s).1,λx=>⟨((h s).2 x).1,λz=>by rw[atKey_put_other hne];exact((h s).2 x).2 z⟩⟩
theorem MapIs.del {D:DataW Unit}{g:ByteArray->ByteArray}(h:MapIs D g)(p:ByteArray):MapIs (D.del (kl p)) (upd g p ⟨#[]⟩):=by
  intro s
  by_cases e:p=s
  · subst e
    rw[upd_same]
    exact⟨λ_=>has_del_same,λx=>absurd rfl x⟩
  · rw[upd_other _ _ e]
    have hne:kl s≠kl p:=λx=>e (kl_inj x).symm
    rw[has_del_other hne]
    exact⟨(h s).1,λx=>⟨((h s).2 x).1,λz=>by rw[atKey_del_other hne];exact((h s).2 x).2 z⟩⟩
theorem law9:Keyed prog 9:=string_keyed underlying9
theorem under58:prog.underlying 132=some (.map 9 80):=underlying132
theorem key9 {s:ByteArray}(h:s.size<=maxLen):keyOf prog 9 (.string s)=some (kl s):=Go.WideMaps.keyOf_string_mk underlying9 h
theorem zero47 (w:World):(zeroValue 80).run prog w=.ok (.agg #[.string ⟨#[]⟩,.string ⟨#[]⟩]) w:=by kernel_rfl
section
variable (w : World) {ops : Array Oper} {rest : List Oper} {o : Oper} {a : Act} {Q : Exit → Act → World → Prop}
theorem look_file_ok (hg:o.guard=none)(m x:Operand)(hop:o.op=Op.lookup 132 m x true)(b n:Nat)(D:DataW Unit)(g:ByteArray->ByteArray)(hM:MapIs D g)(hm:a.eval m=.map (some b))(hown:w.ownsMap prog 9 fileElem b n D)(s:ByteArray)(hs:s.size<=maxLen)(hx:a.eval x=.string s)(hK:∀(p c:ByteArray) (r:Bool),Hid (r=true↔g s≠⟨#[]⟩)->wpList prog ops Q rest (a.put o.dst (.tuple #[.agg #[.string p,.string c],.bool r])) w):
    wpList prog ops Q (o::rest) a w:=
  wpList_lookup_own_ok w hg m x _ hop _ _ law9 under58 fileElem (zero47 w) (fd ⟨#[]⟩ ⟨#[]⟩) [] rfl b n D hm hown _ _ hx (key9 hs) (λv ps hv=>by
    obtain⟨p,c,rfl,_⟩:=fileElem_inv hv
    refine hK p c _ ?_
    constructor
    · intro h e;rw[(hM s).1 e] at h;cases h
    · intro h;exact((hM s).2 h).1)
theorem look_file (hg:o.guard=none)(m x:Operand)(hop:o.op=Op.lookup 132 m x false)(b n:Nat)(D:DataW Unit)(g:ByteArray->ByteArray)(hM:MapIs D g)(hm:a.eval m=.map (some b))(hown:w.ownsMap prog 9 fileElem b n D)(s:ByteArray)(hs:s.size<=maxLen)(hx:a.eval x=.string s)(hK:∀(p:ByteArray),wpList prog ops Q rest (a.put o.dst (.agg #[.string p,.string (g s)])) w):
    wpList prog ops Q (o::rest) a w:=by
  refine wpList_plain hg λK' hK'=>?_
  obtain⟨v,ps,hrun,hv⟩:=hown.lookup law9 under58 (zero47 w) (zd:=fd ⟨#[]⟩ ⟨#[]⟩) (zp:=[]) rfl (key9 hs)
  obtain⟨p,c,rfl,hy⟩:=fileElem_inv hv
  have hc:c=g s:=by
    by_cases e:g s=⟨#[]⟩
    · rw[atKey_of_not_has ((hM s).1 e)] at hy
      rw[e];exact(fd_inj (congrArg Prod.fst hy)).2.symm
    · rw[((hM s).2 e).2] at hy
      exact(fd_inj (congrArg Prod.fst hy)).2.symm
  subst hc
  unfold Oper.wp
  simp[execOp,hop,hm,hx,hrun,Result.andThen]
  exact hK' _ _ (hK p)
end
theorem put_any (b n:Nat)(D:DataW Unit)(g:ByteArray->ByteArray)(p c:ByteArray)(w:World)(hown:w.ownsMap prog 9 fileElem b n D)(hM:MapIs D g)(hp:p.size<=maxLen)(hn:n<maxLen):
    Calls prog 128 #[.map (some b),.agg #[.string p,.string c]] w λe w'=>e=.returned (.tuple #[])/\(∃D',w'.ownsMap prog 9 fileElem b (n+1) D'/\MapIs D' (upd g p c))/\w.grownBy w' (some b):=by
  have hg0:=World.grownBy_alloc w (.cells #[.string p,.string c] 80) (some b)
  have hown1:=hown.alloc (.cells #[.string p,.string c] 80)
  by_cases hc:c.toList.isEmpty=true
  · have hc':c.toList=[]:=by simpa using hc
    have hce:Hid (c=⟨#[]⟩):=(empty_iff c).1 hc
    go_enter func128,ntmps128
    go_wp2_with (at_delete;refine wpList_delete_own _ rfl _ _ _ _ rfl _ law9 under58 _ b n D rfl hown1 _ _ rfl (key9 hp) ?_;intro w1 hown2 hturn2)
    refine bodyPost_ret (v:=.tuple #[]) (results_none (by kernel_rfl) _ _ _) rfl ?_
    exact⟨rfl,⟨_,hown2.mono (Nat.le_succ n),by rw[hce.out];exact hM.del p⟩,hg0.trans hturn2.grown⟩
  · have hc':c.toList.isEmpty=false:=by simpa using hc
    have hce:Hid (c≠⟨#[]⟩):=λe=>hc ((empty_iff c).2 e)
    go_enter func128,ntmps128
    go_wp2_with (at_mapUpdate;refine wpList_mapUpdate_own _ rfl _ _ _ _ rfl _ _ law9 under58 _ b n D rfl hown1 hn _ _ _ rfl rfl (key9 hp) _ [] (fileElem_mk p c) ?_;intro w1 hown2 hg2)
    go_end0
    exact⟨rfl,⟨_,hown2,hM.put hown.isMap p hce.out⟩,hg0.trans hg2⟩
end
theorem addr_addN (g o n:Nat):(⟨g,o,none⟩:Addr).add n=⟨g,o+n,none⟩:=by
  unfold Addr.add
  by_cases h:n=0
  · subst h;simp
  · simp[h]
theorem info49b:(prog.info? 49).map (λi=>(i.zero,i.size,i.bytes))=some (some (.agg #[.string ⟨#[]⟩,.string ⟨#[]⟩,.string ⟨#[]⟩]),3,48):=by kernel_rfl
theorem src_edits {w:World}{a:Option Addr}{n cap:Nat}{l:List Ed}(h:EditsAt w (.slice a n cap) l)(hn:0<n):∃ad,a=some ad/\∀j v,(l.flatMap cE)[j]? =some v->w.cell? (ad.add j)=some v:=by
  rcases h with ⟨_,a',cap',hv⟩|⟨b,off,cap',hv,_,h0,h1,h2⟩
  · cases hv;omega
  · cases hv
    refine⟨_,rfl,λj v hj=>?_⟩
    have hjl:j<l.length*3:=by
      have:=(List.getElem?_eq_some_iff.1 hj).1
      rwa [flat_len cE 3 (λ_=>rfl)] at this
    have e:j=j/3*3+j%3:=by omega
    have hi:j/3<l.length:=by omega
    have hg:=flat_get cE 3 (λ_=>rfl) l (j/3) (j%3) hi (by omega)
    rw[<-e,hj] at hg
    have hadd:=addr_addN b off j
    rw[hadd]
    rcases (show j%3=0\/j%3=1\/j%3=2 by omega) with h3|h3|h3
    · rw[h3] at hg
      have hv:v=.string l[j/3].1:=by simpa[cE] using hg
      have:=h0 (j/3) hi
      rw[hv,<-this];congr 2;omega
    · rw[h3] at hg
      have hv:v=.string l[j/3].2.1:=by simpa[cE] using hg
      have:=h1 (j/3) hi
      rw[hv,<-this];congr 2;omega
    · rw[h3] at hg
      have hv:v=.string l[j/3].2.2:=by simpa[cE] using hg
      have:=h2 (j/3) hi
      rw[hv,<-this];congr 2;omega
theorem one_flatE (l:List Ed):∀v∈l.flatMap cE,v.oneCell'=true:=by
  intro v hv
  obtain⟨f,_,hf⟩:=List.mem_flatMap.1 hv
  simp[cE] at hf
  rcases hf with rfl|rfl|rfl<;>rfl
def up (f:Int->Int):Nat->Int
  |0=>1
  |k+1=>f (up f k)
def f8 (x:Int):Int:=x*2%256
def f32 (x:Int):Int:=x*2%4294967296
def f64 (x:Int):Int:=wrap64 (x*2)
theorem up8:∀k,k<8->(up f8 k !=0)=true:=by decide
theorem up32:∀k,k<32->(up f32 k !=0)=true:=by decide
theorem up64:∀k,k<64->(up f64 k !=0)=true:=by decide+kernel
theorem bits8 (w:World):Calls prog 200 #[] w λe w'=>e=.returned (.int .i64 8)/\w=w':=by
  go_enter func200,ntmps200
  go_wp2
  go_loop [1,2] (λb o=>∃k:Nat,k<=8/\b=.int .i64 k/\o=.int .u8 (up f8 k)) (λb _=>8-(intOf b).toNat)
  case atStart=>exact⟨0,by omega,rfl,rfl⟩
  case round=>
    obtain⟨k,hk,rfl,rfl⟩:=hrel
    by_cases hlk:k<8
    · have h0:=up8 k hlk
      have h1:Hid (up f8 (k+1)=f8 (up f8 k)):=rfl
      generalize up f8 k=x at h0 h1
      go_wp2
      refine⟨⟨k+1,hlk,by go_num,?_⟩,by simp[intOf];omega⟩
      rw[h1.out];rfl
    · obtain rfl:k=8:=by omega
      rw[show up f8 8=0 by decide+kernel]
      go_wp2
      go_ret
      exact⟨rfl,rfl⟩
theorem bits32 (w:World):Calls prog 201 #[] w λe w'=>e=.returned (.int .i64 32)/\w=w':=by
  go_enter func201,ntmps201
  go_wp2
  go_loop [1,2] (λb o=>∃k:Nat,k<=32/\b=.int .i64 k/\o=.int .u32 (up f32 k)) (λb _=>32-(intOf b).toNat)
  case atStart=>exact⟨0,by omega,rfl,rfl⟩
  case round=>
    obtain⟨k,hk,rfl,rfl⟩:=hrel
    by_cases hlk:k<32
    · have h0:=up32 k hlk
      have h1:Hid (up f32 (k+1)=f32 (up f32 k)):=rfl
      generalize up f32 k=x at h0 h1
      go_wp2
      refine⟨⟨k+1,hlk,by go_num,?_⟩,by simp[intOf];omega⟩
      rw[h1.out];rfl
    · obtain rfl:k=32:=by omega
      rw[show up f32 32=0 by decide+kernel]
      go_wp2
      go_ret
      exact⟨rfl,rfl⟩
theorem bits64 (w:World):Calls prog 238 #[] w λe w'=>e=.returned (.int .i64 64)/\w=w':=by
  go_enter func238,ntmps238
  go_wp2
  go_loop [1,2] (λb o=>∃k:Nat,k<=64/\b=.int .i64 k/\o=.int .i64 (up f64 k)) (λb _=>64-(intOf b).toNat)
  case atStart=>exact⟨0,by omega,rfl,rfl⟩
  case round=>
    obtain⟨k,hk,rfl,rfl⟩:=hrel
    by_cases hlk:k<64
    · have h0:=up64 k hlk
      have h1:Hid (up f64 (k+1)=f64 (up f64 k)):=rfl
      generalize up f64 k=x at h0 h1
      go_wp2
      refine⟨⟨k+1,hlk,by go_num,?_⟩,by simp[intOf];omega⟩
      rw[h1.out];rfl
    · obtain rfl:k=64:=by omega
      rw[show up f64 64=0 by decide+kernel]
      go_wp2
      go_ret
      exact⟨rfl,rfl⟩
def bc (l:List UInt8):List Value:=l.map λb=>.int .u8 b.toNat
theorem bc_append (l m:List UInt8):bc (l++m)=bc l++bc m:=by simp[bc]
theorem bc_one (l:List UInt8):∀v∈bc l,v.oneCell'=true:=by
  intro v hv
  obtain⟨b,_,rfl⟩:=List.mem_map.1 hv
  rfl
theorem info_u8:(prog.info? 5).map (λi=>(i.zero,i.size,i.bytes))=some (some (.int .u8 0),1,1):=by kernel_rfl
theorem be_take:∀(K n j:Nat),j<K->(be K n).take (j+1)=(be K n).take j++[UInt8.ofNat (n/256^(K-1-j)%256)]
  |0,_,_,h=>by omega
  |K+1,n,0,_=>by rw[be_head];simp
  |K+1,n,j+1,h=>by
    rw[be_head,List.take_succ_cons,List.take_succ_cons,be_take K n j (by omega),List.cons_append]
    congr 4
    rw[show K+1-1-(j+1)=K-1-j by omega]
theorem cell_one_at (w:World)(v:Value)(t:TypeId):∀j u,[v][j]? =some u->(w.alloc (.cells #[v] t)).cell? ((⟨w.heap.size,0,none⟩:Addr).add j)=some u:=by
  intro j u h
  have hj:j=0:=by
    by_cases hj:j=0
    · exact hj
    · rw[List.getElem?_eq_none (by simp;omega)] at h;cases h
  subst hj
  obtain rfl:v=u:=by simpa using h
  rw[addr_add]
  simp
structure Apped (base:Nat)(w w':World)(v v':Value)(n:Nat)(xs:List Value):Prop where
  row:w'.ownsRow base 5 1 v' n xs
  grown:w.grownBy w' v.ownBlock
  block:v'.ownBlock=v.ownBlock\/∃g,v'.ownBlock=some g/\w.heap.size<=g
theorem Apped.refl {base:Nat}{w:World}{v:Value}{n:Nat}{xs:List Value}(h:w.ownsRow base 5 1 v n xs):Apped base w w v v n xs:=⟨h,World.grownBy.refl _ _,.inl rfl⟩
theorem Apped.step {base:Nat}{w wr w':World}{v u v':Value}{n m:Nat}{xs ys:List Value}{o:Obj}(h:Apped base w wr v u n xs)(hg:(wr.alloc o).grownBy w' u.ownBlock)(hr:w'.ownsRow base 5 1 v' m ys)(hb:v'.ownBlock=u.ownBlock\/v'.ownBlock=some (wr.alloc o).heap.size):Apped base w w' v v' m ys:=by
  have hs:=h.grown.size
  have ha:=World.grownBy_alloc wr o none
  refine⟨hr,⟨hg.os.trans h.grown.os,hg.tape.trans h.grown.tape,hg.output.trans h.grown.output,Nat.le_trans (Nat.le_trans hs ha.size) hg.size,λk hk hne=>?_⟩,?_⟩
  · rw[hg.block k (Nat.lt_of_lt_of_le hk (Nat.le_trans hs ha.size)) (λe=>?_),ha.block k (Nat.lt_of_lt_of_le hk hs) (by simp),h.grown.block k hk hne]
    rcases h.block with h1|⟨g,h1,h2⟩
    · exact hne (by rw[e,h1])
    · rw[h1] at e;cases e;omega
  · rcases hb with hb|hb
    · rw[hb];exact h.block
    · exact .inr ⟨_,hb,Nat.le_trans hs ha.size⟩
theorem app8 (n:Nat)(hn:n<256)(v:Value)(l:List UInt8)(base:Nat)(w:World)(hrow:w.ownsRow base 5 1 v l.length (bc l))(hbase:base<=w.heap.size)(hlen:l.length<1099511627776):
    Calls prog 160 #[v,.int .u8 n] w λe w'=>∃v',e=.returned v'/\Apped base w w' v v' (l.length+1) (bc (l++be 1 n)):=by
  obtain⟨i0,hi,hz0,hz1,hz2⟩:=info_parts info_u8
  have hbe:be 1 n=[UInt8.ofNat n]:=by simp[be,Nat.mod_eq_of_lt hn]
  have hx:((UInt8.ofNat n).toNat:Int)=n:=byte_nat hn
  go_enter func160,ntmps160
  go_wp2_with (go_at_call 200;go_fit (bits8 _);rintro e w' ⟨rfl,rfl⟩)
  go_loopw [0,5] (λbv lv wr=>(lv=.int .i64 0/\bv=v/\wr=w)\/(lv=.int .i64 (-8)/\Apped base w wr v bv (l.length+1) (bc (l++be 1 n)))) (λ_ lv _=>(intOf lv+8).toNat)
  case atStart=>exact .inl ⟨rfl,rfl,rfl⟩
  case round=>
    rcases hrel with ⟨rfl,rfl,rfl⟩|⟨rfl,hA⟩
    · have q1:Hid (l.length+1<=maxLen):=by show _<=_;unfold maxLen;omega
      have q2:Hid ((l.length+1)*1<=140737488355328):=by show _<=_;omega
      have q3:Hid (∀o,base<=(wr.alloc o).heap.size):=λo=>by
        show base<=_
        simp;omega
      have hr:Hid _:=hrow
      clear hlen hn hrow
      generalize UInt8.ofNat n=x at hx hbe
      go_wp2_with (at_builtin;refine wpList_append_own_at _ rfl (.tmp 12) (.tmp 16) _ rfl base _ i0 _ 1 1 underlying114 hi hz0 hz1 hz2 rfl (by decide) u0 _ _ rfl (World.ownsRow.alloc hr.out _) ⟨wr.heap.size,0,none⟩ 1 1 [.int .u8 n] rfl rfl (cell_one_at wr _ _) (by simp[Value.oneCell']) q1.out q2.out (q3.out _) ?_;intro v1 w1 hown1 hg1 hnil1 hloc1)
      refine⟨.inr ⟨by go_num,Apped.step (Apped.refl hr.out) hg1 (by rw[hbe,bc_append];simp only[bc,List.map_cons,List.map_nil,hx];exact hown1) hloc1⟩,by simp[intOf]⟩
    · have HA:Hid _:=hA
      clear hA
      go_wp2
      go_ret
      exact⟨u0,rfl,HA.out⟩
theorem shr32 {n j:Nat}(hj:j<4):(n:Int)/2^(24-8*j)%256=((UInt8.ofNat (n/256^(4-1-j)%256)).toNat:Int):=by
  have e:(2:Nat)^(24-8*j)=256^(4-1-j):=by
    rw[show (256:Nat)=2^8 from rfl,<-Nat.pow_mul];congr 1;omega
  rw[byte_nat (Nat.mod_lt _ (by decide)),<-e,Int.natCast_emod,Int.natCast_ediv,Int.natCast_pow]
  rfl
theorem app32 (n:Nat)(v:Value)(l:List UInt8)(base:Nat)(w:World)(hrow:w.ownsRow base 5 1 v l.length (bc l))(hbase:base<=w.heap.size)(hlen:l.length<1099511627776):
    Calls prog 161 #[v,.int .u32 n] w λe w'=>∃v',e=.returned v'/\Apped base w w' v v' (l.length+4) (bc (l++be 4 n)):=by
  obtain⟨i0,hi,hz0,hz1,hz2⟩:=info_parts info_u8
  go_enter func161,ntmps161
  go_wp2_with (go_at_call 201;go_fit (bits32 _);rintro e w' ⟨rfl,rfl⟩)
  go_loopw [0,5] (λbv lv wr=>∃j:Nat,j<=4/\lv=.int .i64 (24-8*j)/\Apped base w wr v bv (l.length+j) (bc (l++(be 4 n).take j))) (λ_ lv _=>(intOf lv+8).toNat)
  case atStart=>exact⟨0,by omega,rfl,Apped.refl (by simpa using hrow)⟩
  case round=>
    obtain⟨j,hj,rfl,hA⟩:=hrel
    have HA:Hid (Apped base w wr v u0 (l.length+j) (bc (l++(be 4 n).take j))):=hA
    by_cases hj4:j<4
    · have hsz:24-8*(j:Int)≥0:=by omega
      have Hs:=shr32 (n:=n) hj4
      have Hb:=be_take 4 n j hj4
      generalize UInt8.ofNat (n/256^(4-1-j)%256)=x at Hs Hb
      have HB:Hid _:=Hb
      have q1:Hid (l.length+j+1<=maxLen):=by show _<=_;unfold maxLen;omega
      have q2:Hid ((l.length+j+1)*1<=140737488355328):=by show _<=_;omega
      have q3:Hid (∀o,base<=(wr.alloc o).heap.size):=λo=>by
        show base<=_
        have:=hA.grown.size
        simp;omega
      have hr:Hid (wr.ownsRow base 5 1 u0 (l.length+j) (bc (l++(be 4 n).take j))):=hA.row
      clear hA hrow Hb hlen
      go_wp2_with (at_builtin;refine wpList_append_own_at _ rfl (.tmp 12) (.tmp 17) _ rfl base _ i0 _ 1 1 underlying114 hi hz0 hz1 hz2 rfl (by decide) u0 _ _ rfl (World.ownsRow.alloc hr.out _) ⟨wr.heap.size,0,none⟩ 1 1 [.int .u8 x.toNat] rfl rfl (cell_one_at wr _ _) (by simp[Value.oneCell']) q1.out q2.out (q3.out _) ?_;intro v1 w1 hown1 hg1 hnil1 hloc1)
      refine⟨⟨j+1,by omega,by go_num,HA.out.step hg1 (by rw[HB.out,<-List.append_assoc,bc_append];exact hown1) hloc1⟩,by simp[intOf];omega⟩
    · obtain rfl:j=4:=by omega
      have e:(be 4 n).take 4=be 4 n:=List.take_of_length_le (by rw[be_len];exact Nat.le_refl _)
      rw[e] at HA
      clear hA
      go_wp2
      go_ret
      exact⟨u0,rfl,HA.out⟩
theorem shr64 {n j:Nat}(hj:j<8):(n:Int)/2^(56-8*j)%256=((UInt8.ofNat (n/256^(8-1-j)%256)).toNat:Int):=by
  have e:(2:Nat)^(56-8*j)=256^(8-1-j):=by
    rw[show (256:Nat)=2^8 from rfl,<-Nat.pow_mul];congr 1;omega
  rw[byte_nat (Nat.mod_lt _ (by decide)),<-e,Int.natCast_emod,Int.natCast_ediv,Int.natCast_pow]
  rfl
theorem app64 (n:Nat)(v:Value)(l:List UInt8)(base:Nat)(w:World)(hrow:w.ownsRow base 5 1 v l.length (bc l))(hbase:base<=w.heap.size)(hlen:l.length<1099511627776):
    Calls prog 198 #[v,.int .i64 n] w λe w'=>∃v',e=.returned v'/\Apped base w w' v v' (l.length+8) (bc (l++be 8 n)):=by
  obtain⟨i0,hi,hz0,hz1,hz2⟩:=info_parts info_u8
  go_enter func198,ntmps198
  go_wp2_with (go_at_call 238;go_fit (bits64 _);rintro e w' ⟨rfl,rfl⟩)
  go_loopw [0,5] (λbv lv wr=>∃j:Nat,j<=8/\lv=.int .i64 (56-8*j)/\Apped base w wr v bv (l.length+j) (bc (l++(be 8 n).take j))) (λ_ lv _=>(intOf lv+8).toNat)
  case atStart=>exact⟨0,by omega,rfl,Apped.refl (by simpa using hrow)⟩
  case round=>
    obtain⟨j,hj,rfl,hA⟩:=hrel
    have HA:Hid (Apped base w wr v u0 (l.length+j) (bc (l++(be 8 n).take j))):=hA
    by_cases hj4:j<8
    · have hsz:56-8*(j:Int)≥0:=by omega
      have Hs:=shr64 (n:=n) hj4
      have Hb:=be_take 8 n j hj4
      generalize UInt8.ofNat (n/256^(8-1-j)%256)=x at Hs Hb
      have HB:Hid _:=Hb
      have q1:Hid (l.length+j+1<=maxLen):=by show _<=_;unfold maxLen;omega
      have q2:Hid ((l.length+j+1)*1<=140737488355328):=by show _<=_;omega
      have q3:Hid (∀o,base<=(wr.alloc o).heap.size):=λo=>by
        show base<=_
        have:=hA.grown.size
        simp;omega
      have hr:Hid (wr.ownsRow base 5 1 u0 (l.length+j) (bc (l++(be 8 n).take j))):=hA.row
      clear hA hrow Hb hlen
      go_wp2_with (at_builtin;refine wpList_append_own_at _ rfl (.tmp 12) (.tmp 17) _ rfl base _ i0 _ 1 1 underlying114 hi hz0 hz1 hz2 rfl (by decide) u0 _ _ rfl (World.ownsRow.alloc hr.out _) ⟨wr.heap.size,0,none⟩ 1 1 [.int .u8 x.toNat] rfl rfl (cell_one_at wr _ _) (by simp[Value.oneCell']) q1.out q2.out (q3.out _) ?_;intro v1 w1 hown1 hg1 hnil1 hloc1)
      refine⟨⟨j+1,by omega,by go_num,HA.out.step hg1 (by rw[HB.out,<-List.append_assoc,bc_append];exact hown1) hloc1⟩,by simp[intOf];omega⟩
    · obtain rfl:j=8:=by omega
      have e:(be 8 n).take 8=be 8 n:=List.take_of_length_le (by rw[be_len];exact Nat.le_refl _)
      rw[e] at HA
      clear hA
      go_wp2
      go_ret
      exact⟨u0,rfl,HA.out⟩
def BytesAt (w:World)(v:Value)(l:List UInt8):Prop:=
  (l=[]/\∃a cap,v=.slice a 0 cap)\/
  ∃g off cap,v=.slice (some ⟨g,off,none⟩) l.length cap/\g<w.heap.size/\∀i (h:i<l.length),w.cell? ⟨g,off+i,none⟩=some (.int .u8 l[i].toNat)
theorem BytesAt.of_row {w:World}{base:Nat}{v:Value}{l:List UInt8}(h:w.ownsRow base 5 1 v l.length (bc l)):BytesAt w v l:=by
  rcases h.2 with ⟨rfl,h0⟩|⟨g,cap,cur,rfl,hb,hg,_⟩
  · exact .inl ⟨List.length_eq_zero_iff.1 h0,_,_,rfl⟩
  · have hc:=h.cells (g:=g) rfl
    refine .inr ⟨g,0,cap,rfl,(Array.getElem?_eq_some_iff.1 hg).1,λi hi=>?_⟩
    have:=hc i (.int .u8 l[i].toNat) (by simp[bc,hi])
    rwa [addr_add] at this
theorem adl_list {l:List UInt8}{i:Nat}(h:i<l.length):adlS (l.take (i+1))=adl (adlS (l.take i)) l[i]:=by
  rw[List.take_succ_eq_append_getElem h,adlS_snoc]
theorem csum_row (l:List UInt8)(g off cap:Nat)(w:World)(hc:∀i (h:i<l.length),w.cell? ⟨g,off+i,none⟩=some (.int .u8 l[i].toNat))(hl:l.length<1099511627776):
    Calls prog 162 #[.slice (some ⟨g,off,none⟩) l.length cap] w λe w'=>e=.returned (.int .u32 (adler l))/\w=w':=by
  go_enter func162,ntmps162
  go_wp2
  go_loop [3,4,6,9] (λa b _ i=>∃k:Nat,k<=l.length/\i=.int .i64 k/\a=.int .u32 (adlS (l.take k)).1/\b=.int .u32 (adlS (l.take k)).2) (λ_ _ _ i=>l.length-(intOf i).toNat)
  case atStart=>exact⟨0,Nat.zero_le _,rfl,rfl,rfl⟩
  case round=>
    obtain⟨k,hk,rfl,rfl,rfl⟩:=hrel
    have hlt2:=adlS_lt (l.take k)
    by_cases hlk:k<l.length
    · have he:=adl_list hlk
      have hck:=hc k hlk
      have hx:=l[k].toNat_lt
      generalize l[k]=x at he hck hx
      generalize adlS (l.take k)=ab at he hlt2
      have HE:Hid _:=he
      clear he hc
      go_wp2
      refine⟨⟨k+1,hlk,by go_num,?_,?_⟩,by simp[intOf];omega⟩
      · rw[HE.out];simp[adl]
      · rw[HE.out];simp[adl]
    · obtain rfl:k=l.length:=by omega
      rw[List.take_of_length_le (Nat.le_refl _)] at hlt2 ⊢
      have HA:Hid (adler l=(adlS l).2*65536+(adlS l).1):=rfl
      generalize adlS l=ab at hlt2 HA
      have hj:bits .or .u32 ((ab.2:Int)*65536) (ab.1:Int)=(ab.2:Int)*65536+(ab.1:Int):=bits_join .u32 32 (by decide) wraps_u32 16 _ _ (by omega) (by omega) (by omega) (by omega) (by omega) (by omega)
      go_wp2
      go_ret
      exact⟨by rw[HA.out,Int.natCast_add,Int.natCast_mul];rfl,rfl⟩
theorem csum_none (a:Option Addr)(cap:Nat)(w:World):
    Calls prog 162 #[.slice a 0 cap] w λe w'=>e=.returned (.int .u32 (adler []))/\w=w':=by
  go_enter func162,ntmps162
  go_wp2
  go_loop [3,4,6,9] (λa b _ i=>i=.int .i64 0/\a=.int .u32 1/\b=.int .u32 0) (λ_ _ _ _=>0)
  case atStart=>exact⟨rfl,rfl,rfl⟩
  case round=>
    obtain⟨rfl,rfl,rfl⟩:=hrel
    go_wp2
    go_ret
    exact⟨by rfl,rfl⟩
theorem csum_any (l:List UInt8)(v:Value)(w:World)(h:BytesAt w v l)(hl:l.length<1099511627776):
    Calls prog 162 #[v] w λe w'=>e=.returned (.int .u32 (adler l))/\w=w':=by
  rcases h with ⟨rfl,a,cap,rfl⟩|⟨g,off,cap,rfl,_,hc⟩
  · exact csum_none a cap w
  · exact csum_row l g off cap w hc hl
theorem grown_set (w:World)(b o:Nat)(u:Value):w.grownBy (w.setCell ⟨b,o,none⟩ u) (some b):=
  ⟨rfl,rfl,rfl,by simp[World.setCell],λk _ hne=>by
    have:b≠k:=λe=>hne (by rw[e])
    simp[World.setCell,Array.getElem?_modify,this]⟩
theorem run_string_at {P:Program}(w:World)(base:Nat)(t u ty e:TypeId)(i:TypeInfo)(ht:P.underlying t=some (.slice e))(hu:P.underlying u=some .string)(hi:P.info? e=some i)(hz:i.zero=some (.int .u8 0))(hsize:i.size=1)(hby:i.bytes=1)(v:Value)(n:Nat)(xs:List Value)(hown:w.ownsRow base e 1 v n xs)(s:ByteArray)(h63:n+s.size<=maxLen)(hbytes:n+s.size<=140737488355328)(hbase:base<=w.heap.size):
    ∃v' w',(Builtin.append_ #[t,u] ty #[v,.string s]).run P w=.ok v' w'/\w'.ownsRow base e 1 v' (n+s.size) (xs++Lib.strCells s)/\w.grownBy w' v.ownBlock/\(v'.ownBlock=v.ownBlock\/v'.ownBlock=some w.heap.size):=by
  obtain⟨v',w',hr,h2,h3,h4⟩:=Lib.run_append_own_string (P:=P) w base t u ty e i ht hu hi hz hsize hby v n xs hown s h63 hbytes hbase
  refine⟨v',w',hr,h2,h3,?_⟩
  have hsmall:n+s.size<=9223372036854775807:=by omega
  rcases hown.2 with ⟨rfl,rfl⟩|⟨g,cap,cur,rfl,hbg,hg,hnc,hcm,hcs,htake⟩
  · by_cases hm:s.size=0
    · rw[h4.2 ⟨rfl,hm⟩];exact .inl rfl
    · have hr2:=run_append_nil_string (P:=P) w t u ty e i (.int .u8 0) ht hu hi hz s (by omega) (by omega) (by rw[hby];omega)
      rw[hr] at hr2
      cases hr2
      exact .inr rfl
  · by_cases hroom:n+s.size<=cap
    · have hr2:=Lib.run_append_room_string (P:=P) w t u ty e i ht hu hi hsize g n cap cur hg s hroom (by omega)
      rw[hr] at hr2
      cases hr2
      exact .inl rfl
    · have hxl:xs.length=n:=by simpa using hown.1
      have hr2:=Lib.run_append_grow_string (P:=P) w t u ty e i (.int .u8 0) ht hu hi hz ⟨g,0,none⟩ n cap xs (by rw[hsize];simpa using hxl) (hown.cells (g:=g) rfl) s (by omega) (by omega) (by rw[hby];exact growslice_fits (by omega) (by omega))
      rw[hr] at hr2
      cases hr2
      exact .inr rfl
theorem wpList_string_at {P:Program}(w:World){ops:Array Oper}{rest:List Oper}{o:Oper}{a:Act}{Q:Exit->Act->World->Prop}(hgd:o.guard=none)(sl x:Operand)(t u:TypeId)(ho:o.op=.call {callee:=.builtin .append,args:=#[sl,x],argTypes:=#[t,u]})(base:Nat)(e:TypeId)(i:TypeInfo)(ht:P.underlying t=some (.slice e))(hu:P.underlying u=some .string)(hi:P.info? e=some i)(hz:i.zero=some (.int .u8 0))(hsize:i.size=1)(hby:i.bytes=1)(v:Value)(n:Nat)(xs:List Value)(hs:a.eval sl=v)(hown:w.ownsRow base e 1 v n xs)(s:ByteArray)(hx:a.eval x=.string s)(h63:n+s.size<=maxLen)(hbytes:n+s.size<=140737488355328)(hbase:base<=w.heap.size)(h:∀v' w',w'.ownsRow base e 1 v' (n+s.size) (xs++Lib.strCells s)->w.grownBy w' v.ownBlock->(v'.ownBlock=v.ownBlock\/v'.ownBlock=some w.heap.size)->wpList P ops Q rest (a.put o.dst v') w'):wpList P ops Q (o::rest) a w:=by
  refine wpList_plain hgd λK hK=>?_
  obtain⟨v',w',hr,h2,h3,h4⟩:=run_string_at (P:=P) w base t u o.type e i ht hu hi hz hsize hby v n xs hown s h63 hbytes hbase
  unfold Oper.wp execOp
  simp only[ho,resolve,invoke,builtin,Sem.run_bind,Sem.run_pure,Result.andThen_ok,List.map_toArray,List.map_cons,List.map_nil,hs,hx,hr]
  exact hK _ _ (h v' w' h2 h3 h4)
abbrev App (base:Nat)(w w':World)(v v':Value)(l:List UInt8):Prop:=Apped base w w' v v' l.length (bc l)
theorem Apped.trans {base:Nat}{w w1 w2:World}{v v1 v2:Value}{n m:Nat}{xs ys:List Value}(h:Apped base w w1 v v1 n xs)(h2:Apped base w1 w2 v1 v2 m ys):Apped base w w2 v v2 m ys:=by
  have hs:=h.grown.size
  refine⟨h2.row,⟨h2.grown.os.trans h.grown.os,h2.grown.tape.trans h.grown.tape,h2.grown.output.trans h.grown.output,Nat.le_trans hs h2.grown.size,λk hk hne=>?_⟩,?_⟩
  · rw[h2.grown.block k (Nat.lt_of_lt_of_le hk hs) (λe=>?_),h.grown.block k hk hne]
    rcases h.block with h1|⟨g,h1,h3⟩
    · exact hne (by rw[e,h1])
    · rw[h1] at e;cases e;omega
  · rcases h2.block with hb|⟨g,hb,hg⟩
    · rw[hb];exact h.block
    · exact .inr ⟨g,hb,Nat.le_trans hs hg⟩
theorem Apped.keeps {base:Nat}{w w':World}{v v':Value}{n:Nat}{xs:List Value}(h:Apped base w w' v v' n xs){b o:Nat}{u:Value}(hc:w.cell? ⟨b,o,none⟩=some u)(hne:v.ownBlock≠some b):w'.cell? ⟨b,o,none⟩=some u:=
  h.grown.cell hc (λe=>hne e.symm)
theorem Apped.apart {base:Nat}{w w':World}{v v':Value}{n:Nat}{xs:List Value}(h:Apped base w w' v v' n xs){b:Nat}(hb:b<w.heap.size)(hne:v.ownBlock≠some b):v'.ownBlock≠some b:=by
  rcases h.block with h1|⟨g,h1,h2⟩
  · rw[h1];exact hne
  · rw[h1];intro e;cases e;omega
theorem app8' (n:Nat)(hn:n<256)(v:Value)(l:List UInt8)(base:Nat)(w:World)(h:w.ownsRow base 5 1 v l.length (bc l))(hbase:base<=w.heap.size)(hlen:l.length<1099511627776):
    Calls prog 160 #[v,.int .u8 n] w λe w'=>∃v',e=.returned v'/\App base w w' v v' (l++be 1 n):=
  (app8 n hn v l base w h hbase hlen).mono λe w' ⟨v',he,ha⟩=>⟨v',he,by
    show Apped base w w' v v' (l++be 1 n).length _
    rw[List.length_append,be_len];exact ha⟩
theorem app32' (n:Nat)(v:Value)(l:List UInt8)(base:Nat)(w:World)(h:w.ownsRow base 5 1 v l.length (bc l))(hbase:base<=w.heap.size)(hlen:l.length<1099511627776):
    Calls prog 161 #[v,.int .u32 n] w λe w'=>∃v',e=.returned v'/\App base w w' v v' (l++be 4 n):=
  (app32 n v l base w h hbase hlen).mono λe w' ⟨v',he,ha⟩=>⟨v',he,by
    show Apped base w w' v v' (l++be 4 n).length _
    rw[List.length_append,be_len];exact ha⟩
theorem app64' (n:Nat)(v:Value)(l:List UInt8)(base:Nat)(w:World)(h:w.ownsRow base 5 1 v l.length (bc l))(hbase:base<=w.heap.size)(hlen:l.length<1099511627776):
    Calls prog 198 #[v,.int .i64 n] w λe w'=>∃v',e=.returned v'/\App base w w' v v' (l++be 8 n):=
  (app64 n v l base w h hbase hlen).mono λe w' ⟨v',he,ha⟩=>⟨v',he,by
    show Apped base w w' v v' (l++be 8 n).length _
    rw[List.length_append,be_len];exact ha⟩
theorem strCells_eq (s:ByteArray):Lib.strCells s=bc s.data.toList:=by
  simp[Lib.strCells,bc]
theorem appText (s:ByteArray)(hs:s.size<256)(v:Value)(l:List UInt8)(base:Nat)(w:World)(h:w.ownsRow base 5 1 v l.length (bc l))(hbase:base<=w.heap.size)(hlen:l.length<1099511627000):
    Calls prog 237 #[v,.string s] w λe w'=>∃v',e=.returned v'/\App base w w' v v' (l++txt s):=by
  obtain⟨i0,hi,hz0,hz1,hz2⟩:=info_parts info_u8
  have hc:=app8' s.size hs v l base w h hbase (by omega)
  have hm:(s.size:Int)%256=s.size:=by omega
  have q1:Hid (l.length+1+s.size<=maxLen):=by show _<=_;unfold maxLen;omega
  have q2:Hid (l.length+1+s.size<=140737488355328):=by show _<=_;omega
  have hl1:(l++be 1 s.size).length=l.length+1:=by rw[List.length_append,be_len]
  clear h hs
  go_enter func237,ntmps237
  go_wp2_with (first
    |(go_at_call 160;go_fit hc;rintro e w1 ⟨v1,rfl,h1⟩;have H1:Hid (App base w w1 v v1 (l++be 1 s.size)):=h1;clear h1)
    |(at_builtin;refine wpList_string_at _ rfl _ _ _ _ rfl base _ i0 underlying114 underlying9 hi hz0 hz1 hz2 v1 _ _ rfl (Apped.row H1.out) s rfl (by rw[hl1];exact q1.out) (by rw[hl1];exact q2.out) (Nat.le_trans hbase (Apped.grown H1.out).size) ?_;intro v2 w2 hown2 hg2 hloc2))
  go_ret
  refine⟨v2,rfl,Apped.trans H1.out ⟨?_,hg2,?_⟩⟩
  · have e:l++txt s=l++be 1 s.size++s.data.toList:=by rw[txt,List.append_assoc]
    rw[e,bc_append,<-strCells_eq]
    have e2:(l++be 1 s.size++s.data.toList).length=(l++be 1 s.size).length+s.size:=by rw[List.length_append];simp
    rw[e2]
    exact hown2
  · rcases hloc2 with h|h
    · exact .inl h
    · exact .inr ⟨_,h,Nat.le_refl _⟩
def val (l:List UInt8):Nat:=l.foldl (λn b=>n*256+b.toNat) 0
end Go.Proofs.YtgamgomepdfgdaaGreat
