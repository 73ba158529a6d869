import Derived.Lib.Walk
import Derived.Shelf.SlSortCmp.WholeK
import Derived.Lib.BufferWrite
import Derived.Lib.UnsafeStr
import Derived.Laws.MakeOwn
import Derived.Laws.CopyRow
import Derived.Sort.Grow
import Derived.Maps.OwnSet
import Derived.Maps.OwnOps
import Derived.Maps.RangeWalk
import Derived.Test.YtgamgomepdfgdaaGreatEM01
set_option maxRecDepth 100000
set_option maxHeartbeats 8000000
namespace Go.Proofs.YtgamgomepdfgdaaGreat
open Go.RowKit Go.Proofs.Tryz
theorem compareString_any (a b:ByteArray)(w:World):
    Calls prog 222 #[.string a,.string b] w λe w'=>e=.returned (.int .i64 (Lib.compareBytes a.data.toList b.data.toList))/\w'=w:=by
  go_enter func222,ntmps222
  go_wp2
  rw[run_callFunc_extern func256 (by kernel_rfl) (by kernel_rfl) (by kernel_rfl) (e:=Extern.BytealgCompare.compare) (by kernel_rfl),Lib.run_compareString]
  simp only[Result.andThen]
  rw[Oper.upon_value]
  go_wp2
  go_ret
  exact⟨rfl,rfl⟩
theorem compare_any (a b:ByteArray)(w:World):
    Calls prog 187 #[.string a,.string b] w λe w'=>e=.returned (.int .i64 (Lib.compareBytes a.data.toList b.data.toList))/\w'=w:=by
  go_enter func187,ntmps187
  go_wp2_with (go_at_call 222;refine(compareString_any _ _ _).mono ?_;rintro e w' ⟨rfl,rfl⟩)
  go_ret
  exact⟨rfl,rfl⟩
theorem closure_cmp (p b q c:ByteArray)(w:World):
    Calls prog 186 #[.agg #[.string p,.string b],.agg #[.string q,.string c]] w λe w'=>e=.returned (.int .i64 (Lib.compareBytes p.data.toList q.data.toList))/\w'=(w.alloc (.cells #[.string p,.string b] 80)).alloc (.cells #[.string q,.string c] 80):=by
  have hc:=compare_any p q
  generalize Lib.compareBytes p.data.toList q.data.toList=r at hc ⊢
  go_enter func186,ntmps186
  go_wp2_with (go_at_call 187;refine(hc _).mono ?_;rintro e w' ⟨rfl,rfl⟩)
  go_ret
  exact⟨rfl,rfl⟩
section
open Go.Shelf
def Tryz.sortF_ren:Go.Shelf.Ren:=⟨fun|6=>185|15=>191|14=>221|28=>232|29=>233|20=>248|21=>249|22=>250|23=>251|24=>252|25=>253|26=>254|27=>255|46=>268|47=>258|48=>259|49=>269|50=>270|57=>277|n=>n,fun|22=>24|24=>80|25=>269|3=>3|39=>276|0=>0|53=>250|55=>256|4=>4|46=>305|45=>304|50=>309|5=>5|9=>9|66=>323|70=>327|76=>335|77=>336|n=>n,fun|n=>n⟩
theorem Tryz.sortF:Go.Proofs.SlLaysF0.n6 prog Tryz.sortF_ren:={
  mixed:=by kernel_rfl
  f6:=⟨Tryz.f185.name,by decide,func185.trans (congrArg some (by kernel_rfl))⟩
  f14:=⟨Tryz.f221.name,by decide,func221.trans (congrArg some (by kernel_rfl))⟩
  f15:=func191.trans (congrArg some (by kernel_rfl))
  f20:=⟨Tryz.f248.name,by decide,func248.trans (congrArg some (by kernel_rfl))⟩
  f21:=⟨Tryz.f249.name,by decide,func249.trans (congrArg some (by kernel_rfl))⟩
  f22:=⟨Tryz.f250.name,by decide,func250.trans (congrArg some (by kernel_rfl))⟩
  f23:=⟨Tryz.f251.name,by decide,func251.trans (congrArg some (by kernel_rfl))⟩
  f24:=⟨Tryz.f252.name,by decide,func252.trans (congrArg some (by kernel_rfl))⟩
  f25:=⟨Tryz.f253.name,by decide,func253.trans (congrArg some (by kernel_rfl))⟩
  f26:=⟨Tryz.f254.name,by decide,func254.trans (congrArg some (by kernel_rfl))⟩
  f27:=⟨Tryz.f255.name,by decide,func255.trans (congrArg some (by kernel_rfl))⟩
  f28:=func232.trans (congrArg some (by kernel_rfl))
  f29:=func233.trans (congrArg some (by kernel_rfl))
  f46:=⟨Tryz.f268.name,by decide,func268.trans (congrArg some (by kernel_rfl))⟩
  f47:=func258.trans (congrArg some (by kernel_rfl))
  f48:=func259.trans (congrArg some (by kernel_rfl))
  f49:=⟨Tryz.f269.name,by decide,func269.trans (congrArg some (by kernel_rfl))⟩
  f50:=⟨Tryz.f270.name,by decide,func270.trans (congrArg some (by kernel_rfl))⟩
  f57:=⟨Tryz.f277.name,by decide,func277.trans (congrArg some (by kernel_rfl))⟩
  t0:=underlying0
  a0:=Tryz.isAgg0
  z0:=Tryz.sizeOf0
  v0:=Tryz.zeroValue0
  t3:=underlying3
  a3:=Tryz.isAgg3
  z3:=Tryz.sizeOf3
  v3:=Tryz.zeroValue3
  t4:=underlying4
  a4:=Tryz.isAgg4
  z4:=Tryz.sizeOf4
  v4:=Tryz.zeroValue4
  t5:=underlying5
  a5:=Tryz.isAgg5
  z5:=Tryz.sizeOf5
  v5:=Tryz.zeroValue5
  t9:=underlying9
  a9:=Tryz.isAgg9
  z9:=Tryz.sizeOf9
  v9:=Tryz.zeroValue9
  t22:=underlying24
  a22:=Tryz.isAgg24
  z22:=Tryz.sizeOf24
  v22:=Tryz.zeroValue24
  t25:=underlying269
  a25:=Tryz.isAgg269
  z25:=Tryz.sizeOf269
  v25:=Tryz.zeroValue269
  t39:=underlying276
  a39:=Tryz.isAgg276
  z39:=Tryz.sizeOf276
  v39:=Tryz.zeroValue276
  t45:=underlying304
  a45:=Tryz.isAgg304
  z45:=Tryz.sizeOf304
  v45:=Tryz.zeroValue304
  t46:=underlying305
  a46:=Tryz.isAgg305
  z46:=Tryz.sizeOf305
  v46:=Tryz.zeroValue305
  t50:=underlying309
  a50:=Tryz.isAgg309
  z50:=Tryz.sizeOf309
  v50:=Tryz.zeroValue309
  t53:=underlying250
  a53:=Tryz.isAgg250
  z53:=Tryz.sizeOf250
  v53:=Tryz.zeroValue250
  t55:=underlying256
  a55:=Tryz.isAgg256
  z55:=Tryz.sizeOf256
  v55:=Tryz.zeroValue256
  t66:=underlying323
  a66:=Tryz.isAgg323
  z66:=Tryz.sizeOf323
  v66:=Tryz.zeroValue323
  t70:=underlying327
  a70:=Tryz.isAgg327
  z70:=Tryz.sizeOf327
  v70:=Tryz.zeroValue327
  t76:=underlying335
  a76:=Tryz.isAgg335
  z76:=Tryz.sizeOf335
  v76:=Tryz.zeroValue335
  t77:=underlying336
  a77:=Tryz.isAgg336
  z77:=Tryz.sizeOf336
  v77:=Tryz.zeroValue336}
end
theorem isText_any (s:ByteArray)(w:World):
    Calls prog 215 #[.string s] w λe w'=>e=.returned (.bool (okText s))/\w'=w:=by
  go_enter func215,ntmps215
  go_wp2
  go_ret
  refine⟨?_,rfl⟩
  have e:decide ((s.size:Int)<=8)=okText s:=by unfold okText;rw[decide_eq_decide];omega
  rw[<-e];rfl
theorem isFilled_any (s:ByteArray)(w:World):
    Calls prog 174 #[.string s] w λe w'=>e=.returned (.bool (okFill s))/\w'=w:=by
  go_enter func174,ntmps174
  go_wp2_with (go_at_call 215;refine(isText_any _ _).mono ?_;rintro e w' ⟨rfl,rfl⟩)
  all_goals
    go_ret
    refine⟨?_,rfl⟩
    have e:okFill s=(!s.toList.isEmpty&&okText s):=rfl
    rw[e]
  · simp[*]
  · rfl
theorem fileMayBe_any (p b:ByteArray)(w:World):
    Calls prog 127 #[.agg #[.string p,.string b]] w λe w'=>e=.returned (.bool (okFill p&&okFill b))/\Below w.heap.size w w':=by
  go_enter func127,ntmps127
  go_wp2_with (go_at_call 174;refine(isFilled_any _ _).mono ?_;rintro e w' ⟨rfl,rfl⟩)
  · have h:okFill p=true:=by assumption
    go_ret
    exact⟨by rw[h];rfl,(Below.refl _ _).alloc (Nat.le_refl _) _⟩
  · have h:okFill p=false:=by simpa using ‹¬okFill p=true›
    go_ret
    exact⟨by rw[h];rfl,(Below.refl _ _).alloc (Nat.le_refl _) _⟩
theorem editMayBe_any (p o n:ByteArray)(w:World):
    Calls prog 263 #[.agg #[.string p,.string o,.string n]] w λe w'=>e=.returned (.bool (okEdit p o n))/\Below w.heap.size w w':=by
  go_enter func263,ntmps263
  go_wp2_with (first|(go_at_call 174;refine(isFilled_any _ _).mono ?_;rintro e w' ⟨rfl,rfl⟩)|(go_at_call 215;refine(isText_any _ _).mono ?_;rintro e w' ⟨rfl,rfl⟩))
  all_goals
    go_ret
    refine⟨?_,(Below.refl _ _).alloc (Nat.le_refl _) _⟩
    have e:okEdit p o n=(okFill p&&okText o&&okText n&& !(o.toList==n.toList)):=rfl
    rw[e]
    simp[*]
theorem closure_names (p o n q:ByteArray)(bk:Nat)(w:World)(hq:w.cell? ⟨bk,0,none⟩=some (.string q))(hb:bk<w.heap.size):
    Calls prog 274 #[.agg #[.string p,.string o,.string n],.pointer (some ⟨bk,0,none⟩)] w λe w'=>e=.returned (.bool (p.toList==q.toList))/\w'=w.alloc (.cells #[.string p,.string o,.string n] 49):=by
  go_enter func274,ntmps274
  go_wp2
  go_ret
  exact⟨rfl,rfl⟩
theorem info_byte:(prog.info? 5).map (λi=>(i.zero,i.size,i.bytes))=some (some (.int .u8 0),1,1):=by kernel_rfl
theorem clone_in (s:ByteArray)(w:World)(hlim:s.size<=281474976710656):
    Calls prog 175 #[.string s] w λe w'=>e=.returned (.string s)/\Below w.heap.size w w':=by
  by_cases h0:s.size=0
  · obtain rfl:s=⟨#[]⟩:=ByteArray.ext (Array.eq_empty_of_size_eq_zero h0)
    go_enter func175,ntmps175
    go_wp2
    go_ret
    exact⟨rfl,Below.refl _ _⟩
  · obtain⟨i0,hi,hz0,hz1,hz2⟩:=info_parts info_byte
    have hinfo:(prog.info? 5).map (·.size)=some 1:=by rw[hi];simp[hz1]
    have hco:prog.cellsOf 5=1:=by simp[Program.cellsOf,hi,hz1]
    obtain⟨M,hM⟩:∃M,M=madeCells (Value.int .u8 0).cells (((s.size:Nat):Int).toNat*i0.size):=⟨_,rfl⟩
    have hMs:M.size=s.size:=by rw[hM,size_madeCells,hz1];simp
    have hmk:∀W:World,(Instr.makeSlice 114 (.int .i64 (s.size:Int)) (.int .i64 (s.size:Int))).run prog W=.ok (.slice (some ⟨W.heap.size,0,none⟩) s.size s.size) (W.alloc (.cells M 5)):=λW=>by
      have h:=run_make (P:=prog) W 114 5 i0 (.int .u8 0) underlying114 hi hz0 .i64 .i64 (s.size:Int) (s.size:Int) (by omega) (by omega) (by rw[hz2];omega) (by omega)
      rw[<-hM] at h
      simpa using h
    clear hM
    have hcp:=Lib.run_copy_row_string (P:=prog) (w.alloc (.cells M 5)) 114 9 3 5 w.heap.size 0 s.size s.size s M 5 underlying114 hinfo (heap_alloc_new w _) (Nat.le_refl _) (by omega)
    obtain⟨Y,hY⟩:∃Y,Y=(M.toList.take 0++Lib.byteCells s.data.toList++M.toList.drop (0+s.size)).toArray:=⟨_,rfl⟩
    rw[<-hY] at hcp
    have hYl:Y.toList=Lib.byteCells s.data.toList:=by
      rw[hY,List.toList_toArray,List.take_zero,List.nil_append,List.drop_of_length_le (by rw[Array.length_toList];omega),List.append_nil]
    have hYs:Y.size=s.size:=by rw[<-Array.length_toList,hYl,Lib.byteCells_length,<-Lib.size_eq]
    have hgY:((w.alloc (.cells M 5)).setRow w.heap.size Y).heap[w.heap.size]? =some (.cells Y 5 (0,0)):=setRow_heap _ _ M _ 5 (0,0) (heap_alloc_new w _)
    have hne:s.data.toList≠[]:=λe=>h0 (by rw[Lib.size_eq,e];rfl)
    have hUS:=Lib.run_unsafeString_row (P:=prog) ((w.alloc (.cells M 5)).setRow w.heap.size Y) 296 3 9 5 underlying296 hco w.heap.size Y.size (by unfold World.shape?;rw[hgY]) s.data.toList hne (by rw[<-Lib.size_eq];omega) (by rw[<-Lib.size_eq];omega)
      (λj x hx=>Lib.cells_of_row hgY Y.size j _ (by rw[List.take_of_length_le (by rw[Array.length_toList];exact Nat.le_refl _),hYl];simp[Lib.byteCells,hx]))
    rw[<-Lib.size_eq] at hUS
    clear hY
    go_enter func175,ntmps175
    go_wp2
    go_ret
    have hb1:Below w.heap.size w (w.alloc (.cells M 5)):=(Below.refl _ w).alloc (Nat.le_refl _) _
    have hb2:Below w.heap.size (w.alloc (.cells M 5)) ((w.alloc (.cells M 5)).setRow w.heap.size Y):=⟨rfl,rfl,rfl,by simp,λk hk=>setRow_other _ _ _ _ (by omega)⟩
    exact⟨rfl,Lib.below_freeze (hb1.trans hb2) (p:=⟨w.heap.size,0,none⟩) (Nat.le_refl _) _⟩
theorem clone_any (s:ByteArray)(w:World)(hlim:s.size<=281474976710656):
    Calls prog 129 #[.string s] w λe w'=>e=.returned (.string s)/\Below w.heap.size w w':=by
  have hc:=clone_in s w hlim
  go_enter func129,ntmps129
  go_wp2_with (go_at_call 175;refine hc.mono ?_;rintro e w' ⟨rfl,hb⟩)
  go_ret
  exact⟨rfl,hb⟩
theorem run_copy_rowK {P:Program}(w:World)(dT sT ty elem:TypeId)(size:Nat)(g dLen dCap:Nat)(a:Addr)(sLen sCap:Nat)(cur:Array Value)(t:TypeId)(cs:List Value)(hu:P.underlying dT=some (.slice elem))(hs:(P.info? elem).map (·.size)=some size)(hg:w.heap[g]? =some (.cells cur t (0,0)))(hle:sLen<=dLen)(hn:cs.length=sLen*size)(hsrc:∀j v,cs[j]? =some v->w.cell? (a.add j)=some v)(hfit:cs.length<=cur.size)(h1:∀v∈cs,v.oneCell'=true):
    (Builtin.copy_ #[dT,sT] ty #[.slice (some ⟨g,0,none⟩) dLen dCap,.slice (some a) sLen sCap]).run P w=
      .ok (goInt sLen) (w.setRow g (cs++cur.toList.drop cs.length).toArray):=by
  have hl:=run_loadCells_list (P:=P) w a cs hsrc
  have hst:=run_storeCells_at P g 0 t cs 0 cur w hg (by simpa using hfit) h1
  have hmin:Nat.min sLen dLen=sLen:=Nat.min_eq_left hle
  cases hq:P.info? elem with
  |none=>simp[hq] at hs
  |some i=>
    have hi:i.size=size:=by simpa[hq] using hs
    simp[Builtin.copy_,run_underlying hu,Builtin.lenOf,Builtin.firstCells,sizeOf,typeInfo,hq,hi,hmin]
    rw[<-hn,hl]
    simp at hst
    simp[hst]
theorem run_copy_zeroK {P:Program}(w:World)(dT sT ty elem:TypeId)(size:Nat)(d a:Option Addr)(dLen dCap sCap:Nat)(hu:P.underlying dT=some (.slice elem))(hs:(P.info? elem).map (·.size)=some size):
    (Builtin.copy_ #[dT,sT] ty #[.slice d dLen dCap,.slice a 0 sCap]).run P w=.ok (goInt 0) w:=by
  have hl:∀a,Sem.run P (loadCells a 0) w=.ok #[] w:=λa=>run_loadCells_list (P:=P) w a [] (by simp)
  cases hq:P.info? elem with
  |none=>simp[hq] at hs
  |some i=>cases d<;>cases a<;>simp[Builtin.copy_,run_underlying hu,Builtin.lenOf,Builtin.firstCells,sizeOf,typeInfo,hq,storeCells,hl]
theorem wpList_copyK {P:Program}(w:World){ops:Array Oper}{rest:List Oper}{o:Oper}{a:Act}{Q:Exit->Act->World->Prop}(hgd:o.guard=none)(d s:Operand)(dT sT:TypeId)(ho:o.op=.call {callee:=.builtin .copy,args:=#[d,s],argTypes:=#[dT,sT]})(elem:TypeId)(size base:Nat)(hu:P.underlying dT=some (.slice elem))(hs:(P.info? elem).map (·.size)=some size)(g m:Nat)(sp:Option Addr)(n sCap:Nat)(hd:a.eval d=.slice (some ⟨g,0,none⟩) m m)(hsv:a.eval s=.slice sp n sCap)(hle:n<=m)(xs:List Value)(hown:w.ownsRow base elem size (.slice (some ⟨g,0,none⟩) m m) m xs)(cs:List Value)(hn:cs.length=n*size)(hsrc:0<n->∃ad,sp=some ad/\∀j v,cs[j]? =some v->w.cell? (ad.add j)=some v)(h1:∀v∈cs,v.oneCell'=true)(h:∀w',w'.ownsRow base elem size (.slice (some ⟨g,0,none⟩) m m) m (cs++xs.drop cs.length)->w.grownBy w' (some g)->wpList P ops Q rest (a.put o.dst (goInt n)) w'):wpList P ops Q (o::rest) a w:=by
  refine wpList_plain hgd λK hK=>?_
  by_cases h0:n=0
  · subst h0
    obtain rfl:cs=[]:=List.eq_nil_of_length_eq_zero (by simpa using hn)
    have hrun:=run_copy_zeroK (P:=P) w dT sT o.type elem size (some ⟨g,0,none⟩) sp m m sCap hu hs
    unfold Oper.wp
    simp[execOp,ho,resolve,invoke,builtin,hd,hsv,hrun,Result.andThen]
    exact hK _ _ (h w (by simpa using hown) (World.grownBy.refl _ _))
  · obtain⟨ad,rfl,hc⟩:=hsrc (by omega)
    rcases hown.2 with ⟨hnil,_⟩|⟨g',cap',cur,hv,hb,hg,hnc,hcm,hcs,htk⟩
    · cases hnil
    cases hv
    have hlen:cs.length<=cur.size:=by rw[hn,hcs];exact Nat.mul_le_mul_right size hle
    have hrun:=run_copy_rowK (P:=P) w dT sT o.type elem size g m m ad n sCap cur elem cs hu hs hg hle hn hc hlen h1
    unfold Oper.wp
    simp[execOp,ho,resolve,invoke,builtin,hd,hsv,hrun,Result.andThen]
    have hxs:cur.toList=xs:=by rw[<-htk,List.take_of_length_le (by rw[Array.length_toList,hcs];exact Nat.le_refl _)]
    rw[hxs]
    refine hK _ _ (h _ ⟨?_,.inr ⟨g,m,_,rfl,hb,setRow_heap w g cur _ elem _ hg,Nat.le_refl _,hcm,?_,?_⟩⟩ ⟨rfl,rfl,rfl,by simp[World.setRow],λk hk hne=>setRow_other w g k _ (λe=>hne (by rw[e]))⟩)
    · have hx:=hown.1
      rw[List.length_append,List.length_drop];have:cs.length<=xs.length:=by rw[<-hxs,Array.length_toList];exact hlen
      omega
    · have hx:=hown.1
      have:cs.length<=xs.length:=by rw[<-hxs,Array.length_toList];exact hlen
      simp;omega
    · have hx:=hown.1
      have:cs.length<=xs.length:=by rw[<-hxs,Array.length_toList];exact hlen
      rw[List.take_of_length_le (by simp;omega)]
section
open Go.Sort Go.Shelf
theorem flat_eq (l:List Fl):(flatK cF 2 l.toArray).toList=l.flatMap cF:=by
  apply List.ext_getElem?
  intro t
  by_cases ht:t<l.length*2
  · have h1:t/2<l.length:=by omega
    have e:t=t/2*2+t%2:=by omega
    have hr:(l.flatMap cF)[t]? =(cF l[t/2])[t%2]? :=by
      conv=>lhs;rw[e]
      exact flat_get cF 2 (λ_=>rfl) l (t/2) (t%2) h1 (by omega)
    have hs:t<(flatK cF 2 l.toArray).size:=by rw[size_flatK];simpa using ht
    rw[hr,Array.getElem?_toList,Array.getElem?_eq_getElem hs,<-getElem!_pos _ t hs,get_flatK _ _ _ t (by simpa using ht)]
    have e2:(l.toArray)[t/2]! =l[t/2]:=by rw[getElem!_pos l.toArray (t/2) (by simpa using h1)];simp
    rw[e2]
    have h2:t%2<(cF l[t/2]).length:=by show t%2<2;omega
    rw[getElem!_pos (cF l[t/2]) (t%2) h2,List.getElem?_eq_getElem h2]
  · rw[List.getElem?_eq_none (by rw[Array.length_toList,size_flatK];simp;omega),List.getElem?_eq_none (by rw[flat_len cF 2 (λ_=>rfl)];omega)]
theorem flat_size (l:List Fl):(flatK cF 2 l.toArray).size=l.length*2:=by rw[size_flatK];simp
theorem holdsK_row {w:World}{g:Nat}{cur:Array Value}{e:TypeId}{l:List Fl}(hb:w.heap[g]? =some (.cells cur e (0,0)))(ht:cur.toList.take (l.length*2)=l.flatMap cF):HoldsK cF 2 w g 0 l.toArray:=by
  intro j hj
  have hj':j<l.length*2:=by rw[flat_size] at hj;exact hj
  refine⟨?_,by simp[World.frozen?,hb]⟩
  have h1:(cur.toList.take (l.length*2))[j]? =(flatK cF 2 l.toArray).toList[j]? :=by rw[ht,flat_eq]
  rw[List.getElem?_take_of_lt hj',Array.getElem?_toList,Array.getElem?_toList,Array.getElem?_eq_getElem hj] at h1
  simp only[World.cell?,hb,Nat.zero_add]
  simp only[Option.isSome_none,Bool.false_eq_true,if_false]
  rw[h1,getElem!_pos (flatK cF 2 l.toArray) j hj]
  rfl
theorem heap_sortedK {w:World}{g n:Nat}{os:Array Obj}{cur:Array Value}{e:TypeId}{fr:Nat×Nat}(d:Array Fl)(hb:w.heap[g]? =some (.cells cur e fr)):
    (sortWorldK cF 2 w g 0 n d os).heap[g]? =some (.cells (putCells id 0 (flatK cF 2 d) cur) e fr):=by
  have hg:g<w.heap.size:=(Array.getElem?_eq_some_iff.1 hb).1
  unfold sortWorldK putRowK
  rw[heap_grow_old _ _ (by simpa[putRow,mapBlock,Sort.ahead] using hg)]
  simp[putRow,mapBlock,Sort.ahead,Array.getElem?_modify,hb,onCells]
theorem grownBy_sortedK {w:World}{g n:Nat}{os:Array Obj}(d:Array Fl):w.grownBy (sortWorldK cF 2 w g 0 n d os) (some g):=by
  unfold sortWorldK putRowK
  refine⟨rfl,rfl,rfl,by simp[putRow,mapBlock,Sort.ahead,grow],λk hk hne=>?_⟩
  rw[heap_grow_old _ _ (by simpa[putRow,mapBlock,Sort.ahead] using hk)]
  have:g≠k:=λe=>hne (by rw[e])
  simp[putRow,mapBlock,Sort.ahead,Array.getElem?_modify,this]
theorem take_putCellsK (cur F:Array Value)(h:F.size<=cur.size):(putCells id 0 F cur).toList.take F.size=F.toList:=by
  apply List.ext_getElem?
  intro j
  by_cases hj:j<F.size
  · rw[List.getElem?_take_of_lt hj,Array.getElem?_toList,Array.getElem?_toList]
    simp[putCells,hj,show j<cur.size by omega]
  · rw[List.getElem?_take_eq_none (by omega),List.getElem?_eq_none (by simp;omega)]
theorem ownsRow_sortedK {w:World}{base g cap n:Nat}{e:TypeId}{os:Array Obj}{cur:Array Value}{ss ts:List Fl}(hl:ts.length=ss.length)(hbase:base<=g)(hb:w.heap[g]? =some (.cells cur e (0,0)))(h1:ss.length<=cap)(h2:cap<=maxLen)(h3:cur.size=cap*2):
    (sortWorldK cF 2 w g 0 n ts.toArray os).ownsRow base e 2 (.slice (some ⟨g,0,none⟩) ss.length cap) ss.length (ts.flatMap cF):=by
  refine⟨by rw[flat_len cF 2 (λ_=>rfl),hl],.inr ⟨g,cap,_,rfl,hbase,heap_sortedK _ hb,h1,h2,by simp[putCells,h3],?_⟩⟩
  rw[<-hl,<-flat_size ts,<-flat_eq ts]
  exact take_putCellsK cur _ (by rw[flat_size];omega)
def cmpF (x y:Fl):Int:=Lib.compareBytes x.1.data.toList y.1.data.toList
theorem compareBytes_neg:∀(a b:List UInt8),Lib.compareBytes a b<0↔a<b
  |[],[]=>by simp[Lib.compareBytes]
  |[],_::_=>by simp[Lib.compareBytes]
  |_::_,[]=>by simp[Lib.compareBytes]
  |a::x,b::y=>by
    unfold Lib.compareBytes
    rw[List.cons_lt_cons_iff]
    by_cases h1:a<b
    · simp[h1]
    · by_cases h2:b<a
      · have:a≠b:=λe=>by subst e;exact absurd h2 h1
        simp[h1,h2,this]
      · have:a=b:=UInt8.le_antisymm (UInt8.not_lt.1 h2) (UInt8.not_lt.1 h1)
        simp[this,compareBytes_neg x y]
theorem ltF (x y:Fl):ltOf cmpF x y=decide (x.1.data.toList<y.1.data.toList):=by
  unfold ltOf cmpF;rw[decide_eq_decide];exact compareBytes_neg _ _
theorem swoF:SWO (ltOf cmpF) where
  irrefl x:=by rw[ltF];simp
  trans x y z h1 h2:=by rw[ltF] at *;simp at *;exact List.lt_trans h1 h2
  ntrans x y z h1 h2:=by
    rw[ltF] at *
    simp only[decide_eq_false_iff_not,List.not_lt] at *
    exact List.le_trans h2 h1
theorem cmpLaysF (blk off size:Nat)(w:World):CmpLays prog 186 #[] cF 2 cmpF blk off size w:=by
  intro m os dk _ x y
  refine(closure_cmp x.1 x.2 y.1 y.2 _).mono ?_
  rintro e w' ⟨rfl,rfl⟩
  exact⟨rfl,0,_,by rw[alloc_eq_grow,alloc_eq_grow,grow_grow];rfl⟩
theorem sort_any (l:List Fl)(g cap base:Nat)(w:World)(hrow:w.ownsRow base 80 2 (.slice (some ⟨g,0,none⟩) l.length cap) l.length (l.flatMap cF))(hn:l.length<8796093022208):
    Calls prog 185 #[.slice (some ⟨g,0,none⟩) l.length cap,.func (.func 186) #[] #[]] w λe w'=>
      e=.returned (.tuple #[])/\(∃l':List Fl,l'.Perm l/\l'.Pairwise (λa b=>¬b.1.data.toList<a.1.data.toList)/\w'.ownsRow base 80 2 (.slice (some ⟨g,0,none⟩) l'.length cap) l'.length (l'.flatMap cF))/\w.grownBy w' (some g):=by
  rcases hrow.2 with ⟨hnil,_⟩|⟨g',cap',cur,hv,hbase,hb,h1,h2,h3,h4⟩
  · cases hnil
  cases hv
  have eg:∀args w,(callFunc 186 args).run prog w=.ok (.enter 186 args) w:=enters_of func186 (by kernel_rfl) rfl
  have hcon:=AnyQ.slices_SortFunc Tryz.sortF 2 Tryz.isAgg80 Tryz.sizeOf80 cF (λ_=>rfl) (λx v hv=>by simp[cF] at hv;rcases hv with rfl|rfl<;>rfl) cmpF swoF 186 #[] g 0 cap l.toArray w eg (cmpLaysF g 0 _ w) (holdsK_row hb h4) (Array.getElem?_eq_some_iff.1 hb).1 (by simp;omega)
  have hcon':Calls prog 185 #[.slice (some ⟨g,0,none⟩) l.length cap,.func (.func 186) #[] #[]] w _:=hcon
  refine hcon'.mono ?_
  rintro e w' ⟨rfl,d',n,os,hp,hs,rfl⟩
  have hsz:d'.size=l.length:=by simpa using hp.1
  have e1:d'=d'.toList.toArray:=by simp
  have hperm:d'.toList.Perm l:=by
    have h:=hp.2.2
    have e2:d'.extract 0 l.toArray.size=d':=by rw[List.size_toArray,<-hsz];exact Array.extract_size
    have e3:l.toArray.extract 0 l.toArray.size=l.toArray:=Array.extract_size
    rw[e2,e3] at h
    exact h
  refine⟨rfl,⟨d'.toList,hperm,?_,?_⟩,grownBy_sortedK _⟩
  · rw[List.pairwise_iff_getElem]
    intro i j hi hj hij
    have:=hs i j (Nat.zero_le _) hij (by simp only[List.size_toArray];rw[Array.length_toList] at hj;omega)
    rw[ltF,decide_eq_false_iff_not] at this
    rw[Array.length_toList] at hi hj
    rw[getElem!_pos d' i hi,getElem!_pos d' j hj] at this
    simpa using this
  · rw[e1]
    have hl:d'.toList.length=l.length:=by rw[Array.length_toList];exact hsz
    have:=ownsRow_sortedK (w:=w) (base:=base) (g:=g) (cap:=cap) (n:=n) (e:=80) (os:=os) (cur:=cur) (ss:=l) (ts:=d'.toList) hl hbase hb h1 h2 h3
    simpa[hl,hsz] using this
end
section
open Go.Maps
def fd (p b:ByteArray):DataW Unit:=.agg [.lit (.string p.data.toList),.lit (.string b.data.toList)]
theorem fd_inj {p b q c:ByteArray}(h:fd p b=fd q c):p=q/\b=c:=by
  simp only[fd,DataW.agg.injEq,List.cons.injEq,DataW.lit.injEq,Lit.string.injEq,and_true] at h
  exact⟨eq_of_data h.1,eq_of_data h.2⟩
def fileElem:Value->Option (DataW Unit×List MemPlace)
  |.agg ⟨[.string p,.string b]⟩=>some (fd p b,[])
  |_=>none
theorem fileElem_mk (p b:ByteArray):fileElem (.agg #[.string p,.string b])=some (fd p b,[]):=rfl
theorem fileElem_inv {v:Value}{y:DataW Unit×List MemPlace}(h:fileElem v=some y):∃p b,v=.agg #[.string p,.string b]/\y=(fd p b,[]):=by
  unfold fileElem at h
  split at h
  · rename_i p b
    exact⟨p,b,rfl,(Option.some.inj h).symm⟩
  · cases h
abbrev kl (s:ByteArray):Lit:=.string s.data.toList
theorem kl_inj {s t:ByteArray}(h:kl s=kl t):s=t:=eq_of_data (Lit.string.inj h)
def MapIs (D:DataW Unit)(g:ByteArray->ByteArray):Prop:=
  ∀s,(g s=⟨#[]⟩->Maps.has D (kl s)=false)/\(g s≠⟨#[]⟩->Maps.has D (kl s)=true/\∀z,D.atKey (kl s) z=fd s (g s))
theorem MapIs.made:MapIs (.map []) λ_=>⟨#[]⟩:=λ_=>⟨λ_=>rfl,λh=>absurd rfl h⟩
theorem MapIs.put {D:DataW Unit}{g:ByteArray->ByteArray}(h:MapIs D g)(hD:IsMap D)(p:ByteArray){b:ByteArray}(hb:b≠⟨#[]⟩):MapIs (D.put (kl p) (fd p b)) (upd g p b):=by
  intro s
  by_cases e:p=s
  · subst e
    rw[upd_same]
    exact⟨λx=>absurd x hb,λ_=>⟨has_put_same hD (show WideAt.IsKeyLit (kl p) from trivial) _,λz=>atKey_put_same hD (show WideAt.IsKeyLit (kl p) from trivial) _ z⟩⟩
  · rw[upd_other _ _ e]
    have hne:kl s≠kl p:=λx=>e (kl_inj x).symm
    rw[has_put_other hne]
    exact⟨(h s).1,λx=>⟨((h s).2 x).1,λz=>by rw[atKey_put_other hne];exact((h s).2 x).2 z⟩⟩
theorem MapIs.del {D:DataW Unit}{g:ByteArray->ByteArray}(h:MapIs D g)(p:ByteArray):MapIs (D.del (kl p)) (upd g p ⟨#[]⟩):=by
  intro s
  by_cases e:p=s
  · subst e
    rw[upd_same]
    exact⟨λ_=>has_del_same,λx=>absurd rfl x⟩
  · rw[upd_other _ _ e]
    have hne:kl s≠kl p:=λx=>e (kl_inj x).symm
    rw[has_del_other hne]
    exact⟨(h s).1,λx=>⟨((h s).2 x).1,λz=>by rw[atKey_del_other hne];exact((h s).2 x).2 z⟩⟩
theorem law9:Keyed prog 9:=string_keyed underlying9
theorem under58:prog.underlying 132=some (.map 9 80):=underlying132
theorem key9 {s:ByteArray}(h:s.size<=maxLen):keyOf prog 9 (.string s)=some (kl s):=Go.WideMaps.keyOf_string_mk underlying9 h
theorem zero47 (w:World):(zeroValue 80).run prog w=.ok (.agg #[.string ⟨#[]⟩,.string ⟨#[]⟩]) w:=by kernel_rfl
section
variable (w : World) {ops : Array Oper} {rest : List Oper} {o : Oper} {a : Act} {Q : Exit → Act → World → Prop}
theorem look_file_ok (hg:o.guard=none)(m x:Operand)(hop:o.op=Op.lookup 132 m x true)(b n:Nat)(D:DataW Unit)(g:ByteArray->ByteArray)(hM:MapIs D g)(hm:a.eval m=.map (some b))(hown:w.ownsMap prog 9 fileElem b n D)(s:ByteArray)(hs:s.size<=maxLen)(hx:a.eval x=.string s)(hK:∀(p c:ByteArray) (r:Bool),Hid (r=true↔g s≠⟨#[]⟩)->wpList prog ops Q rest (a.put o.dst (.tuple #[.agg #[.string p,.string c],.bool r])) w):
    wpList prog ops Q (o::rest) a w:=
  wpList_lookup_own_ok w hg m x _ hop _ _ law9 under58 fileElem (zero47 w) (fd ⟨#[]⟩ ⟨#[]⟩) [] rfl b n D hm hown _ _ hx (key9 hs) (λv ps hv=>by
    obtain⟨p,c,rfl,_⟩:=fileElem_inv hv
    refine hK p c _ ?_
    constructor
    · intro h e;rw[(hM s).1 e] at h;cases h
    · intro h;exact((hM s).2 h).1)
theorem look_file (hg:o.guard=none)(m x:Operand)(hop:o.op=Op.lookup 132 m x false)(b n:Nat)(D:DataW Unit)(g:ByteArray->ByteArray)(hM:MapIs D g)(hm:a.eval m=.map (some b))(hown:w.ownsMap prog 9 fileElem b n D)(s:ByteArray)(hs:s.size<=maxLen)(hx:a.eval x=.string s)(hK:∀(p:ByteArray),wpList prog ops Q rest (a.put o.dst (.agg #[.string p,.string (g s)])) w):
    wpList prog ops Q (o::rest) a w:=by
  refine wpList_plain hg λK' hK'=>?_
  obtain⟨v,ps,hrun,hv⟩:=hown.lookup law9 under58 (zero47 w) (zd:=fd ⟨#[]⟩ ⟨#[]⟩) (zp:=[]) rfl (key9 hs)
  obtain⟨p,c,rfl,hy⟩:=fileElem_inv hv
  have hc:c=g s:=by
    by_cases e:g s=⟨#[]⟩
    · rw[atKey_of_not_has ((hM s).1 e)] at hy
      rw[e];exact(fd_inj (congrArg Prod.fst hy)).2.symm
    · rw[((hM s).2 e).2] at hy
      exact(fd_inj (congrArg Prod.fst hy)).2.symm
  subst hc
  unfold Oper.wp
  simp[execOp,hop,hm,hx,hrun,Result.andThen]
  exact hK' _ _ (hK p)
end
theorem put_any (b n:Nat)(D:DataW Unit)(g:ByteArray->ByteArray)(p c:ByteArray)(w:World)(hown:w.ownsMap prog 9 fileElem b n D)(hM:MapIs D g)(hp:p.size<=maxLen)(hn:n<maxLen):
    Calls prog 128 #[.map (some b),.agg #[.string p,.string c]] w λe w'=>e=.returned (.tuple #[])/\(∃D',w'.ownsMap prog 9 fileElem b (n+1) D'/\MapIs D' (upd g p c))/\w.grownBy w' (some b):=by
  have hg0:=World.grownBy_alloc w (.cells #[.string p,.string c] 80) (some b)
  have hown1:=hown.alloc (.cells #[.string p,.string c] 80)
  by_cases hc:c.toList.isEmpty=true
  · have hc':c.toList=[]:=by simpa using hc
    have hce:Hid (c=⟨#[]⟩):=(empty_iff c).1 hc
    go_enter func128,ntmps128
    go_wp2_with (at_delete;refine wpList_delete_own _ rfl _ _ _ _ rfl _ law9 under58 _ b n D rfl hown1 _ _ rfl (key9 hp) ?_;intro w1 hown2 hturn2)
    refine bodyPost_ret (v:=.tuple #[]) (results_none (by kernel_rfl) _ _ _) rfl ?_
    exact⟨rfl,⟨_,hown2.mono (Nat.le_succ n),by rw[hce.out];exact hM.del p⟩,hg0.trans hturn2.grown⟩
  · have hc':c.toList.isEmpty=false:=by simpa using hc
    have hce:Hid (c≠⟨#[]⟩):=λe=>hc ((empty_iff c).2 e)
    go_enter func128,ntmps128
    go_wp2_with (at_mapUpdate;refine wpList_mapUpdate_own _ rfl _ _ _ _ rfl _ _ law9 under58 _ b n D rfl hown1 hn _ _ _ rfl rfl (key9 hp) _ [] (fileElem_mk p c) ?_;intro w1 hown2 hg2)
    go_end0
    exact⟨rfl,⟨_,hown2,hM.put hown.isMap p hce.out⟩,hg0.trans hg2⟩
end
end Go.Proofs.YtgamgomepdfgdaaGreat
