import Derived.Shelf.SlSortCmp.InsertionK
import Derived.Test.YtgamgomepdfgdaaGreatFM14
import Derived.Test.YtgamgomepdfgdaaGreatFM13
set_option maxRecDepth 100000
set_option maxHeartbeats 8000000
namespace Go.Proofs.YtgamgomepdfgdaaGreat
open Go.RowKit Go.Proofs.Tryz
section
open Go.Shelf
open Go.Sort (grow grow_grow heap_grow_old SWO HoldsK flatK size_flatK get_flatK putCells putRow mapBlock onCells putRowK PermIn SortedIn)
theorem grew {w w':World}(hb:Below w.heap.size w w')(hd:w.drawn<=w'.drawn):∃q os',w'=grow (w.drewN q) os':=by
  refine⟨w'.drawn-w.drawn,w'.heap.extract w.heap.size w'.heap.size,?_⟩
  obtain⟨h1,h2,h3,h4,h5⟩:=hb
  have e:w.heap++w'.heap.extract w.heap.size w'.heap.size=w'.heap:=by
    apply Array.ext_getElem?
    intro k
    by_cases hk:k<w.heap.size
    · rw[Array.getElem?_append_left hk,h5 k hk]
    · rw[Array.getElem?_append_right (by omega),Array.getElem?_extract]
      by_cases hk2:k<w'.heap.size
      · rw[if_pos (by omega)];congr 1;omega
      · rw[if_neg (by omega),Array.getElem?_eq_none (by omega)]
  have e2:w.drawn+(w'.drawn-w.drawn)=w'.drawn:=by omega
  show w'={w with heap:=w.heap++_,drawn:=w.drawn+(w'.drawn-w.drawn)}
  rw[e,e2,<-h1,<-h2,<-h3]
structure Rw where
  val:Pw
  ok:val.1.lane<1000/\val.1.passed<4611686018427387904/\IsSl val.2
def rwZero:Rw:=⟨(⟨0,0,0,0,[]⟩,.slice none 0 0),by simp,by simp,⟨none,0,0,rfl⟩⟩
def cR (age:Nat)(x:Rw):List Value:=cP age x.val
def ordOf (x:Pw):Nat:=x.1.ord
def ltR (age:Nat)(x y:Rw):Bool:=decide (laneOf age x.val<laneOf age y.val\/(laneOf age x.val=laneOf age y.val/\ordOf x.val<ordOf y.val))
def cmpR (age:Nat)(x y:Rw):Int:=if ltR age x y then -1 else if ltR age y x then 1 else 0
theorem ltOf_cmpR (age:Nat)(x y:Rw):ltOf (cmpR age) x y=ltR age x y:=by
  unfold ltOf cmpR
  cases ltR age x y<;>cases ltR age y x<;>simp
theorem ltR_iff (age:Nat)(x y:Rw):ltR age x y=true↔Bef (laneOf age) ordOf x.val y.val:=by unfold ltR Bef;simp
theorem ltR_not (age:Nat)(x y:Rw):ltR age x y=false↔¬Bef (laneOf age) ordOf x.val y.val:=by rw[<-ltR_iff];simp
theorem swoR (age:Nat):SWO (ltOf (cmpR age)) where
  irrefl x:=by rw[ltOf_cmpR,ltR_not];unfold Bef;omega
  trans x y z h1 h2:=by rw[ltOf_cmpR,ltR_iff] at *;unfold Bef at *;omega
  ntrans x y z h1 h2:=by rw[ltOf_cmpR,ltR_not] at *;unfold Bef at *;omega
theorem flatK_eq [Inhabited Rw](age:Nat)(l:List Rw):(flatK (cR age) 6 l.toArray).toList=l.flatMap (cR age):=by
  apply List.ext_getElem?
  intro t
  by_cases ht:t<l.length*6
  · have h1:t/6<l.length:=by omega
    have e:t=t/6*6+t%6:=by omega
    have hr:(l.flatMap (cR age))[t]? =(cR age l[t/6])[t%6]? :=by
      conv=>lhs;rw[e]
      exact flat_get (cR age) 6 (λ_=>rfl) l (t/6) (t%6) h1 (by omega)
    have hs:t<(flatK (cR age) 6 l.toArray).size:=by rw[size_flatK];simpa using ht
    rw[hr,Array.getElem?_toList,Array.getElem?_eq_getElem hs,<-getElem!_pos _ t hs,get_flatK _ _ _ t (by simpa using ht)]
    have e2:(l.toArray)[t/6]! =l[t/6]:=by rw[getElem!_pos l.toArray (t/6) (by simpa using h1)];simp
    rw[e2]
    have h2:t%6<(cR age l[t/6]).length:=by show t%6<6;omega
    rw[getElem!_pos (cR age l[t/6]) (t%6) h2,List.getElem?_eq_getElem h2]
  · rw[List.getElem?_eq_none (by rw[Array.length_toList,size_flatK];simp;omega),List.getElem?_eq_none (by rw[flat_len (cR age) 6 (λ_=>rfl)];omega)]
theorem flatK_size [Inhabited Rw](age:Nat)(l:List Rw):(flatK (cR age) 6 l.toArray).size=l.length*6:=by rw[size_flatK];simp
theorem holdsR [Inhabited Rw]{w:World}{age g:Nat}{cur:Array Value}{e:TypeId}{l:List Rw}(hb:w.heap[g]? =some (.cells cur e (0,0)))(ht:cur.toList.take (l.length*6)=l.flatMap (cR age)):HoldsK (cR age) 6 w g 0 l.toArray:=by
  intro j hj
  have hj':j<l.length*6:=by rw[flatK_size] at hj;exact hj
  refine⟨?_,by simp[World.frozen?,hb]⟩
  have h1:(cur.toList.take (l.length*6))[j]? =(flatK (cR age) 6 l.toArray).toList[j]? :=by rw[ht,flatK_eq]
  rw[List.getElem?_take_of_lt hj',Array.getElem?_toList,Array.getElem?_toList,Array.getElem?_eq_getElem hj] at h1
  simp only[World.cell?,hb,Nat.zero_add]
  simp only[Option.isSome_none,Bool.false_eq_true,if_false]
  rw[h1,getElem!_pos (flatK (cR age) 6 l.toArray) j hj]
  rfl
theorem heap_sortedR [Inhabited Rw]{w:World}{age g n:Nat}{os:Array Obj}{cur:Array Value}{e:TypeId}{fr:Nat×Nat}(d:Array Rw)(hb:w.heap[g]? =some (.cells cur e fr)):
    (sortWorldK (cR age) 6 w g 0 n d os).heap[g]? =some (.cells (putCells id 0 (flatK (cR age) 6 d) cur) e fr):=by
  have hg:g<w.heap.size:=(Array.getElem?_eq_some_iff.1 hb).1
  unfold sortWorldK putRowK
  rw[heap_grow_old _ _ (by simpa[putRow,mapBlock,Sort.ahead] using hg)]
  simp[putRow,mapBlock,Sort.ahead,Array.getElem?_modify,hb,onCells]
theorem grownBy_sortedR [Inhabited Rw]{w:World}{age g n:Nat}{os:Array Obj}(d:Array Rw):w.grownBy (sortWorldK (cR age) 6 w g 0 n d os) (some g):=by
  unfold sortWorldK putRowK
  refine⟨rfl,rfl,rfl,by simp[putRow,mapBlock,Sort.ahead,grow],λk hk hne=>?_⟩
  rw[heap_grow_old _ _ (by simpa[putRow,mapBlock,Sort.ahead] using hk)]
  have:g≠k:=λe=>hne (by rw[e])
  simp[putRow,mapBlock,Sort.ahead,Array.getElem?_modify,this]
theorem take_putCellsR (cur F:Array Value)(h:F.size<=cur.size):(putCells id 0 F cur).toList.take F.size=F.toList:=by
  apply List.ext_getElem?
  intro j
  by_cases hj:j<F.size
  · rw[List.getElem?_take_of_lt hj,Array.getElem?_toList,Array.getElem?_toList]
    simp[putCells,hj,show j<cur.size by omega]
  · rw[List.getElem?_take_eq_none (by omega),List.getElem?_eq_none (by simp;omega)]
theorem ownsRow_sortedR [Inhabited Rw]{w:World}{age base g cap n:Nat}{e:TypeId}{os:Array Obj}{cur:Array Value}{m:Nat}{ts:List Rw}(hl:ts.length=m)(hbase:base<=g)(hb:w.heap[g]? =some (.cells cur e (0,0)))(h1:m<=cap)(h2:cap<=maxLen)(h3:cur.size=cap*6):
    (sortWorldK (cR age) 6 w g 0 n ts.toArray os).ownsRow base e 6 (.slice (some ⟨g,0,none⟩) m cap) m (ts.flatMap (cR age)):=by
  refine⟨by rw[flat_len (cR age) 6 (λ_=>rfl),hl],.inr ⟨g,cap,_,rfl,hbase,heap_sortedR _ hb,h1,h2,by simp[putCells,h3],?_⟩⟩
  rw[<-hl,<-flatK_size age ts,<-flatK_eq age ts]
  exact take_putCellsR cur _ (by rw[flatK_size];omega)
def insR_ren:Ren:=⟨fun|20=>234|n=>n,fun|22=>190|24=>193|25=>247|n=>n,fun|n=>n⟩
theorem insR:SlLaysF0.n20 prog insR_ren:={
  mixed:=by kernel_rfl
  f20:=⟨Tryz.f234.name,by decide,func234.trans (congrArg some (by kernel_rfl))⟩
  t0:=underlying0
  a0:=Tryz.isAgg0
  z0:=Tryz.sizeOf0
  v0:=Tryz.zeroValue0
  t3:=underlying3
  a3:=Tryz.isAgg3
  z3:=Tryz.sizeOf3
  v3:=Tryz.zeroValue3
  t4:=underlying4
  a4:=Tryz.isAgg4
  z4:=Tryz.sizeOf4
  v4:=Tryz.zeroValue4
  t22:=underlying190
  a22:=Tryz.isAgg190
  z22:=Tryz.sizeOf190
  v22:=Tryz.zeroValue190
  t25:=underlying247
  a25:=Tryz.isAgg247
  z25:=Tryz.sizeOf247
  v25:=Tryz.zeroValue247}
theorem cmpLaysR [Inhabited Rw](age:Nat)(ha:1<=age/\age<9)(blk off size:Nat)(w:World):CmpLays prog 156 #[] (cR age) 6 (cmpR age) blk off size w:=by
  intro m os dk _ x y
  obtain⟨⟨⟨i,l,p,o,es⟩,v⟩,hx⟩:=x
  obtain⟨⟨⟨i',l',p',o',es'⟩,v'⟩,hy⟩:=y
  have hl:=hx.1
  have hp:=hx.2.1
  have hl':=hy.1
  have hp':=hy.2.1
  obtain⟨a,n,c,e⟩:=hx.2.2
  obtain⟨a',n',c',e'⟩:=hy.2.2
  dsimp only at e e' hl hp hl' hp'
  subst e e'
  refine(yCmp age i l p o i' l' p' o' a n c a' n' c' _ ha hl hp hl' hp' _ _ (ltR_iff age ⟨⟨⟨i,l,p,o,es⟩,.slice a n c⟩,hx⟩ ⟨⟨⟨i',l',p',o',es'⟩,.slice a' n' c'⟩,hy⟩) (ltR_iff age ⟨⟨⟨i',l',p',o',es'⟩,.slice a' n' c'⟩,hy⟩ ⟨⟨⟨i,l,p,o,es⟩,.slice a n c⟩,hx⟩)).mono ?_
  rintro e w' ⟨rfl,hb,hd⟩
  exact⟨rfl,grew hb hd⟩
theorem yIns [Inhabited Rw](age:Nat)(ha:1<=age/\age<9)(l:List Rw)(g cap base:Nat)(w:World)(hrow:w.ownsRow base 193 6 (.slice (some ⟨g,0,none⟩) l.length cap) l.length (l.flatMap (cR age)))(hn:l.length<=16)(q0:List Pw)(hq0:q0.Perm (l.map Rw.val))(hd:q0.Pairwise λx y=>ordOf x<ordOf y):
    Calls prog 234 #[.slice (some ⟨g,0,none⟩) l.length cap,.int .i64 0,.int .i64 l.length,.func (.func 156) #[] #[]] w λe w'=>
      e=.returned (.tuple #[])/\w'.ownsRow base 193 6 (.slice (some ⟨g,0,none⟩) l.length cap) l.length ((rkG (laneOf age) q0 1000).flatMap (cP age))/\w.grownBy w' (some g):=by
  rcases hrow.2 with ⟨hnil,_⟩|⟨g',cap',cur,hv,hbase,hb,h1,h2,h3,h4⟩
  · cases hnil
  cases hv
  have eg:∀args w,(callFunc 156 args).run prog w=.ok (.enter 156 args) w:=enters_of func156 (by kernel_rfl) rfl
  have hcon:=AnyQ.insertionSortCmpFunc insR 6 Tryz.isAgg193 Tryz.sizeOf193 (cR age) (λ_=>rfl) (λx v hv=>by
    obtain⟨a,n,c,e⟩:=x.ok.2.2
    simp[cR,cP,e] at hv
    rcases hv with rfl|rfl|rfl|rfl|rfl|rfl<;>rfl) (cmpR age) 156 #[] g 0 cap 0 l.length l.toArray w eg (cmpLaysR age ha g 0 _ w) (holdsR hb h4) (Array.getElem?_eq_some_iff.1 hb).1 (Nat.zero_le _) (by simp) (by simp;omega)
  have hcon':Calls prog 234 #[.slice (some ⟨g,0,none⟩) l.length cap,.int .i64 0,.int .i64 l.length,.func (.func 156) #[] #[]] w _:=hcon
  refine hcon'.mono ?_
  have hS:=Sort.insertionSort_holds (swoR age) l.toArray 0 l.length (Nat.zero_le _) (by simp)
  generalize Sort.insertionSort (ltOf (cmpR age)) l.toArray 0 l.length=d' at hS ⊢
  obtain⟨hp,hs⟩:=hS
  rintro e w' ⟨rfl,n,os,rfl⟩
  have hsz:d'.size=l.length:=by simpa using hp.1
  have e1:d'=d'.toList.toArray:=by simp
  have hperm:d'.toList.Perm l:=by
    have h:=hp.2.2
    have e2:d'.extract 0 l.length=d':=by rw[<-hsz];exact Array.extract_size
    have e3:l.toArray.extract 0 l.length=l.toArray:=by
      have:l.length=l.toArray.size:=by simp
      rw[this];exact Array.extract_size
    rw[e2,e3] at h
    exact h
  have hpm:(d'.toList.map Rw.val).Perm (l.map Rw.val):=hperm.map _
  have hne:(d'.toList.map Rw.val).Pairwise λx y=>ordOf x≠ordOf y:=by
    have h:=hd.imp (fun {a b} (h:ordOf a<ordOf b)=>Nat.ne_of_lt h)
    exact(hq0.trans hpm.symm).pairwise h (fun {a b} h=>h.symm)
  have hpw:(d'.toList.map Rw.val).Pairwise (Bef (laneOf age) ordOf):=by
    rw[List.pairwise_iff_getElem] at hne ⊢
    intro i j hi hj hij
    have hx:=hne i j hi hj hij
    rw[List.length_map,Array.length_toList] at hi hj
    have:=hs i j (Nat.zero_le _) hij (by omega)
    rw[ltOf_cmpR,ltR_not,getElem!_pos d' i hi,getElem!_pos d' j hj] at this
    simp only[List.getElem_map,Array.getElem_toList] at hx ⊢
    unfold Bef at *
    omega
  have hlane:∀x∈q0,laneOf age x<1000:=λx hx=>by
    replace hx:=hq0.mem_iff.1 hx
    obtain⟨y,_,rfl⟩:=List.mem_map.1 hx
    exact Nat.lt_of_le_of_lt (Nat.sub_le _ _) y.ok.1
  have hfin:d'.toList.map Rw.val=rkG (laneOf age) q0 1000:=one_order (λx y h h'=>h.asym h') ((hpm.trans hq0.symm).trans (rkG_perm hlane).symm) hpw (rkG_sorted hd 1000)
  have hflat:d'.toList.flatMap (cR age)=(rkG (laneOf age) q0 1000).flatMap (cP age):=by
    rw[<-hfin,List.flatMap_map];rfl
  refine⟨rfl,?_,grownBy_sortedR _⟩
  rw[<-hflat,e1]
  have hl:d'.toList.length=l.length:=by rw[Array.length_toList];exact hsz
  exact ownsRow_sortedR (w:=w) (base:=base) (g:=g) (cap:=cap) (n:=n) (e:=193) (os:=os) (cur:=cur) (m:=l.length) (ts:=d'.toList) hl hbase hb h1 h2 h3
end
theorem yIns0 (a:Option Addr)(c:Nat)(f:Value)(w:World):
    Calls prog 234 #[.slice a 0 c,.int .i64 0,.int .i64 0,f] w λe w'=>e=.returned (.tuple #[])/\w'=w:=by
  go_enter func234,ntmps234
  go_wp2
  refine wp_loop_rounds 1 ?_
  rw[rounds_succ]
  go_wp2
  go_end0
  exact⟨rfl,rfl⟩
theorem yStab (n:Nat)(v f:Value)(Q:World->Prop)(w:World)(hv:IsSl v)(hn:n<=16)(h:Calls prog 234 #[v,.int .i64 0,.int .i64 n,f] w λe w'=>e=.returned (.tuple #[])/\Q w'):
    Calls prog 193 #[v,.int .i64 n,f] w λe w'=>e=.returned (.tuple #[])/\Q w':=by
  obtain⟨a,m,c,rfl⟩:=hv
  go_enter func193,ntmps193
  go_wp2
  refine wp_loop_rounds 1 ?_
  rw[rounds_succ]
  go_wp2_with fail
  go_fit h
  rintro e w' ⟨rfl,hq⟩
  go_wp2_with fail
  refine wp_loop_rounds 1 ?_
  rw[rounds_succ]
  go_wp2_with fail
  go_end0
  exact⟨rfl,hq⟩
theorem ySortS (n c:Nat)(a:Option Addr)(f:Value)(Q:World->Prop)(w:World)(hn:n<=16)(h:Calls prog 234 #[.slice a n c,.int .i64 0,.int .i64 n,f] w λe w'=>e=.returned (.tuple #[])/\Q w'):
    Calls prog 155 #[.slice a n c,f] w λe w'=>e=.returned (.tuple #[])/\Q w':=by
  have h1:=yStab n (.slice a n c) f Q w ⟨a,n,c,rfl⟩ hn h
  clear h
  go_enter func155,ntmps155
  go_wp2_with fail
  go_fit h1
  rintro e w' ⟨rfl,hq⟩
  go_wp2_with fail
  go_end0
  exact⟨rfl,hq⟩
theorem yClone0 (w:World):
    Calls prog 154 #[.slice none 0 0] w λe w'=>e=.returned (.slice none 0 0)/\w'=w:=by
  have hnil:∀W:World,(binOp .eql 190 (.slice none 0 0) (.slice none 0 0)).run prog W=.ok (.bool true) W:=λW=>Lib.run_eql_slice_nil W _ _ _ _ _ _ _ underlying190
  go_enter func154,ntmps154
  go_wp2_with fail
  go_ret
  exact⟨rfl,rfl⟩
theorem yCloneE (g off cap:Nat)(w:World):
    Calls prog 154 #[.slice (some ⟨g,off,none⟩) 0 cap] w λe w'=>(∃v',e=.returned v'/\Sl w' 193 6 v' 0 [])/\Below w.heap.size w w':=by
  obtain⟨i0,hi,hz0,hz1,hz2⟩:=info_parts info_pw
  have hnil:∀W:World,(binOp .eql 190 (.slice (some ⟨g,off,none⟩) 0 cap) (.slice none 0 0)).run prog W=.ok (.bool false) W:=λW=>Lib.run_eql_slice_nil W _ _ _ _ _ _ _ underlying190
  have hS:Sl (w.alloc (.cells #[] 193)) 193 6 (.slice (some ⟨w.heap.size,0,none⟩) 0 0) 0 []:=⟨rfl,.inr ⟨w.heap.size,0,0,#[],rfl,Bx.new w #[] 193,Nat.le_refl _,by unfold maxLen;omega,by simp,λj u hu=>by simp at hu⟩⟩
  have HS:Hid (Sl (w.alloc (.cells #[] 193)) 193 6 (.slice (some ⟨w.heap.size,0,none⟩) 0 0) 0 []):=hS
  clear hS
  go_enter func154,ntmps154
  go_wp2_with (at_builtin;refine wpList_append_sl _ rfl _ _ 190 rfl _ i0 _ 6 64 underlying190 hi hz0 hz1 hz2 rfl (by decide) (.slice (some ⟨w.heap.size,0,none⟩) 0 0) 0 [] rfl HS.out ⟨g,off,none⟩ 0 cap [] rfl rfl (by intro j u hu;simp at hu) (by simp) (by unfold maxLen;omega) (by omega) ?_;intro v3 w3 hs3 hg3 _)
  have hb3:Below w.heap.size w w3:=(below_new _ _).grown hg3 (by simp) (by intro k hk;cases hk;exact Nat.le_refl _)
  obtain⟨a3,c3,rfl⟩:=hs3.form
  go_wp2_with fail
  go_ret
  exact⟨⟨_,rfl,hs3⟩,hb3⟩
def pmR (q:List Pw)(H:∀x∈q,x.1.lane<1000/\x.1.passed<4611686018427387904/\IsSl x.2):List Rw:=q.pmap (λx h=>(⟨x,h⟩:Rw)) H
theorem pmR_val (q:List Pw)(H:∀x∈q,x.1.lane<1000/\x.1.passed<4611686018427387904/\IsSl x.2):(pmR q H).map Rw.val=q:=by
  rw[pmR,List.map_pmap];simp
theorem pmR_len (q:List Pw)(H:∀x∈q,x.1.lane<1000/\x.1.passed<4611686018427387904/\IsSl x.2):(pmR q H).length=q.length:=by rw[pmR,List.length_pmap]
theorem pmR_flat (age:Nat)(q:List Pw)(H:∀x∈q,x.1.lane<1000/\x.1.passed<4611686018427387904/\IsSl x.2):(pmR q H).flatMap (cR age)=q.flatMap (cP age):=by
  conv=>rhs;rw[<-pmR_val q H,List.flatMap_map]
  rfl
theorem rkG_len {age:Nat}{q:List Pw}(H:∀x∈q,x.1.lane<1000/\x.1.passed<4611686018427387904/\IsSl x.2):(rkG (laneOf age) q 1000).length=q.length:=
  (rkG_perm λx hx=>Nat.lt_of_le_of_lt (Nat.sub_le _ _) (H x hx).1).length_eq
theorem yByRank (age:Nat)(ha:1<=age/\age<9)(q:List Pw)(v:Value)(w:World)(hS:Sl w 193 6 v q.length (q.flatMap (cP age)))(H:∀x∈q,x.1.lane<1000/\x.1.passed<4611686018427387904/\IsSl x.2)(hn:q.length<=16)(q0:List Pw)(hq0:q0.Perm q)(hd:q0.Pairwise λx y=>ordOf x<ordOf y):
    Calls prog 109 #[v] w λe w'=>(∃v',e=.returned v'/\Sl w' 193 6 v' q.length ((rkG (laneOf age) q0 1000).flatMap (cP age))/\(0<q.length->∀g,v'.ownBlock=some g->w.heap.size<=g))/\Below w.heap.size w w':=by
  by_cases hz:q=[]
  · subst hz
    have hC:Calls prog 154 #[v] w λe w'=>(∃v',e=.returned v'/\Sl w' 193 6 v' 0 [])/\Below w.heap.size w w':=by
      rcases hS.2 with ⟨rfl,_⟩|⟨g,off,cap,cur,rfl,_⟩
      · refine(yClone0 w).mono ?_
        rintro e w' ⟨rfl,rfl⟩
        exact⟨⟨_,rfl,Sl.nil _ _ _⟩,Below.refl _ _⟩
      · exact yCloneE g off cap w
    obtain rfl:=hq0.eq_nil
    have e0:(rkG (laneOf age) ([]:List Pw) 1000).flatMap (cP age)=[]:=by simp[rkG]
    rw[e0]
    obtain⟨va,vc,rfl⟩:=hS.form
    clear hS H hd e0
    go_enter func109,ntmps109
    go_wp2_with fail
    go_fit hC
    rintro e w1 ⟨⟨v1,rfl,hs1⟩,hb1⟩
    obtain⟨a1,c1,rfl⟩:=hs1.form
    have hT:=ySortS 0 c1 a1 (.func (.func 156) #[] #[]) (λw'=>w'=w1) w1 (by omega) (yIns0 a1 c1 _ w1)
    clear hC
    go_wp2_with fail
    go_fit hT
    rintro e w2 ⟨rfl,rfl⟩
    go_wp2_with fail
    go_ret
    exact⟨⟨_,rfl,hs1,λh=>absurd h (by simp)⟩,hb1⟩
  · have hpos:0<q.length:=by
      rcases q with _|_
      · exact absurd rfl hz
      · simp
    obtain⟨g,off,cap,rfl,_⟩:=hS.addr hpos
    have hC:=yClone q age g off cap w hS (λx hx=>(H x hx).2.2) hn hpos
    clear hS
    have HV:=pmR_val q H
    have HL:=pmR_len q H
    have HF:=pmR_flat age q H
    generalize pmR q H=l at HV HL HF
    clear H
    go_enter func109,ntmps109
    go_wp2_with fail
    go_fit hC
    rintro e w1 ⟨⟨v1,rfl,hr1⟩,hb1⟩
    have hT:∃g1 c1,v1=.slice (some ⟨g1,0,none⟩) q.length c1/\w.heap.size<=g1/\Calls prog 155 #[.slice (some ⟨g1,0,none⟩) q.length c1,.func (.func 156) #[] #[]] w1 λe w'=>e=.returned (.tuple #[])/\(w'.ownsRow w.heap.size 193 6 (.slice (some ⟨g1,0,none⟩) q.length c1) q.length ((rkG (laneOf age) q0 1000).flatMap (cP age))/\w1.grownBy w' (some g1)):=by
      rcases hr1.2 with ⟨_,h0⟩|⟨g1,c1,cur,rfl,hbase,_⟩
      · omega
      · rw[<-HF,<-HL] at hr1
        have inh:Inhabited Rw:=⟨rwZero⟩
        have:=yIns age ha l g1 c1 w.heap.size w1 hr1 (by omega) q0 (by rw[HV];exact hq0) hd
        rw[HL] at this
        exact⟨g1,c1,rfl,hbase,ySortS q.length c1 (some ⟨g1,0,none⟩) _ _ w1 hn this⟩
    obtain⟨g1,c1,rfl,hg1,hT⟩:=hT
    clear HV HL HF hC hr1
    go_wp2_with fail
    go_fit hT
    rintro e w2 ⟨rfl,hr2,hg2⟩
    have hb2:Below w.heap.size w w2:=hb1.grown hg2 hb1.size (by intro k hk;cases hk;exact hg1)
    clear hT
    go_wp2_with fail
    go_ret
    exact⟨⟨_,rfl,Sl.of_row hr2,λ_ g hg=>by cases hg;exact hg1⟩,hb2⟩
theorem lift_perm {α β:Type}{f:α->β}:∀{m:List β} {q:List α},(q.map f).Perm m->∃q0:List α,q0.Perm q/\q0.map f=m
  |[],q,h=>by
    have:q=[]:=List.map_eq_nil_iff.1 h.eq_nil
    subst this
    exact⟨[],List.Perm.refl _,rfl⟩
  |b::m,q,h=>by
    obtain⟨x,hx,e⟩:=List.mem_map.1 (h.mem_iff.2 (List.mem_cons_self))
    obtain⟨s,t,rfl⟩:=List.append_of_mem hx
    have hp:(s++x::t).Perm (x::(s++t)):=List.perm_middle
    have h':((s++t).map f).Perm m:=by
      have:=(hp.map f).symm.trans h
      rw[List.map_cons,e] at this
      exact(List.perm_cons b).1 this
    obtain⟨q0,h1,h2⟩:=lift_perm h'
    exact⟨x::q0,(h1.cons x).trans hp.symm,by rw[List.map_cons,e,h2]⟩
theorem rkG_more {α:Type}{lane:α->Nat}{q:List α}{L:Nat}(h:∀x∈q,lane x<L):∀M,rkG lane q (L+M)=rkG lane q L
  |0=>rfl
  |M+1=>by
    rw[<-Nat.add_assoc,rkG_succ,rkG_more h M]
    have:(q.filter λx=>lane x==L+M)=[]:=List.filter_eq_nil_iff.2 λx hx=>by
      have:=h x hx
      simp;omega
    rw[this,List.append_nil]
theorem YardIs.ranks {w:World}{S:Nat->Prop}{yb mb n0:Nat}{c:Cfg}{s:Ts}{q:List Pw}{sb:Nat}{qv ov:Value}{x:Xt}(h:YardIs w S yb mb n0 c s q sb qv ov x)(hI:s.Inv c)(hc:c.Ok):
    ∃q0:List Pw,q0.Perm q/\q0.map Prod.fst=s.queue/\(q0.Pairwise λx y=>ordOf x<ordOf y)/\(rkG (laneOf c.age) q0 1000).map Prod.fst=s.ranked c/\(rkG (laneOf c.age) q0 1000).Perm q:=by
  obtain⟨q0,h1,h2⟩:=lift_perm h.qs
  have hl:∀y∈s.queue,laneC c.age y<4:=λy hy=>by
    have h3:=(hI.top y hy).2.1
    have h4:=hc.1.2
    exact Nat.lt_of_le_of_lt (Nat.sub_le _ _) (by omega)
  refine⟨q0,h1,h2,?_,?_,?_⟩
  · have:=hI.ord
    rw[<-h2,List.pairwise_map] at this
    exact this
  · have:=rkG_map (laneC c.age) (Prod.fst:Pw->Ch) q0 1000
    rw[h2] at this
    rw[Ts.ranked,<-rkG_more hl 996]
    exact this.symm
  · refine(rkG_perm λy hy=>?_).trans h1
    have:y.1∈s.queue:=by rw[<-h2];exact List.mem_map_of_mem hy
    have:=hl _ this
    exact Nat.lt_of_lt_of_le this (by omega)
theorem YardIs.small {w:World}{S:Nat->Prop}{yb mb n0:Nat}{c:Cfg}{s:Ts}{q:List Pw}{sb:Nat}{qv ov:Value}{x:Xt}(h:YardIs w S yb mb n0 c s q sb qv ov x)(hI:s.Inv c)(hc:c.Ok)(hi:s.ids.length<1048576000):
    (∀y∈q,y.1.lane<1000/\y.1.passed<4611686018427387904/\IsSl y.2)/\q.length<=16:=by
  refine⟨λy hy=>?_,?_⟩
  · have hm:y.1∈s.queue:=h.qs.mem_iff.1 (List.mem_map_of_mem hy)
    obtain⟨t1,t2,t3,t4⟩:=hI.top _ hm
    have:=hc.1.2
    exact⟨by omega,by omega,h.sl y hy⟩
  · rw[h.qlen]
    exact Nat.le_trans hI.len hc.2.2.2.2.2.2.2
section
open Go.Lib
theorem info_chg:(prog.info? 273).map (λi=>(i.zero,i.size,i.bytes))=some (some (.agg #[.int .i64 0,.slice none 0 0]),2,32):=by kernel_rfl
def cwOf (y:Pw):Cw:=(y.1.cg,y.2)
def upP (y:Pw):Pw:=(y.1.up,y.2)
theorem tPick_none (yb:Nat)(cs:Array Value)(a:Option Addr)(cap:Nat)(w:World)(hB:Bx w yb 201 cs)(h9:cs[9]? =some (.slice a 0 cap)):
    Calls prog 207 #[ptr yb] w λe w'=>e=.returned (.bool false)/\w'=w:=by
  have c9:=hB.cell h9
  clear hB h9
  unfold ptr
  go_enter func207,ntmps207
  go_wp2_with fail
  go_ret
  exact⟨rfl,rfl⟩
theorem cells_new2 (w:World)(o:Obj)(cs:List Value)(t:TypeId):∀j u,cs[j]? =some u->((w.alloc o).alloc (.cells cs.toArray t)).cell? ((⟨w.heap.size+1,0,none⟩:Addr).add j)=some u:=by
  have e:w.heap.size+1=(w.alloc o).heap.size:=by simp
  rw[e]
  exact cells_new (w.alloc o) cs t
theorem q3' {w w':World}(h:Below w.heap.size w w')(o:Obj):w.heap.size<=(w'.alloc o).heap.size:=by
  have:=h.size
  simp;omega
theorem flat_up (age:Nat):∀(L:List Pw) (m:Nat) (h:m<L.length),(L.set m (upP L[m])).flatMap (cP age)=(L.flatMap (cP age)).set (m*6+2) (.int .i64 ((L[m].1.passed:Int)+1))
  |x::L,0,_=>by simp[cP,upP,Ch.up]
  |x::L,m+1,h=>by
    have ih:=flat_up age L m (by simpa using h)
    rw[List.set_cons_succ,List.flatMap_cons,List.flatMap_cons,List.getElem_cons_succ,ih,List.set_append_right _ _ (by simp[cP];omega)]
    congr 2
    simp[cP];omega
def upTo (l:List Pw)(m:Nat):List Pw:=(l.take m).map upP++l.drop m
theorem upTo_len (l:List Pw)(m:Nat):(upTo l m).length=l.length:=by
  simp[upTo];omega
theorem upTo_get (l:List Pw)(m:Nat)(h:m<l.length):(upTo l m)[m]'(by rw[upTo_len];exact h)=l[m]:=by
  simp only[upTo]
  rw[List.getElem_append_right (by simp;omega)]
  simp[Nat.min_eq_left (Nat.le_of_lt h)]
theorem upTo_succ (l:List Pw)(m:Nat)(h:m<l.length):(upTo l m).set m (upP l[m])=upTo l (m+1):=by
  have hl:((l.take m).map upP).length=m:=by simp;omega
  show ((l.take m).map upP++l.drop m).set m (upP l[m])=(l.take (m+1)).map upP++l.drop (m+1)
  rw[List.set_append_right _ _ (by omega),hl,Nat.sub_self,List.drop_eq_getElem_cons h,List.set_cons_zero,List.take_succ_eq_append_getElem h,List.map_append,List.append_assoc]
  rfl
theorem upTo_all (l:List Pw)(m:Nat)(h:l.length<=m):upTo l m=l.map upP:=by
  simp[upTo,List.take_of_length_le h,List.drop_eq_nil_of_le h]
theorem tPick {S:Nat->Prop}{yb mb n0:Nat}{c:Cfg}{s:Ts}{w:World}{q:List Pw}{sb:Nat}{qv ov:Value}{x:Xt}(h:YardIs w S yb mb n0 c s q sb qv ov x)(hI:s.Inv c)(hc:c.Ok)(hi:s.ids.length<1048576000)(hs:s.segs=[])(hq:s.queue≠[]):
    Calls prog 207 #[ptr yb] w λe w'=>e=.returned (.bool true)/\(∃q' qv' tv',YardIs w' (Plus S w) yb mb n0 c (s.pick c) q' sb qv' ov {x with tv:=tv'})/\OnlyT w w' S [201,210]:=by
  obtain⟨i0,hi0,hz0,hz1,hz2⟩:=info_parts info_chg
  obtain⟨q0,hp,hq0,hd,hrk,hrp⟩:=h.ranks hI hc
  obtain⟨H,hn⟩:=h.small hI hc hi
  obtain⟨qa,qcap,rfl⟩:=h.que.row.form
  have hpos:0<q.length:=by
    rw[h.qlen];exact List.length_pos_iff.2 hq
  have hR:=yByRank c.age ⟨hc.2.1.1,by have:=hc.2.1.2;omega⟩ q _ w h.que.row H hn q0 hp hd
  have HY:Hid (YardIs w S yb mb n0 c s q sb (.slice qa q.length qcap) ov x):=h
  have HR:Hid ((rkG (laneOf c.age) q0 1000).map Prod.fst=s.ranked c/\(rkG (laneOf c.age) q0 1000).Perm q):=⟨hrk,hrp⟩
  have hrl:Hid ((rkG (laneOf c.age) q0 1000).length=q.length):=hrp.length_eq
  have c2:=h.box.c 2 (.int .i64 c.batch)
  have c9:=h.box.c 9 (.slice qa q.length qcap)
  have hb1:=hc.2.2.1.1
  have hb8:=hc.2.2.1.2
  have hyl:=h.box.lt
  have q0':¬((q.length:Int)=0):=by omega
  have q1':((q.length:Int)==0)=false:=beq_false_of_ne q0'
  obtain⟨k,hk⟩:∃k,k=min c.batch q.length:=⟨_,rfl⟩
  have hmin:min (c.batch:Int) (q.length:Int)=(k:Int):=by
    rw[hk]
    by_cases hle:c.batch<=q.length
    · rw[Nat.min_eq_left hle,Int.min_eq_left (by omega)]
    · rw[Nat.min_eq_right (by omega),Int.min_eq_right (by omega)]
  have hkl:k<=q.length:=by rw[hk];exact Nat.min_le_right _ _
  have hk0:0<k:=by rw[hk];exact Nat.lt_min.2 ⟨by omega,hpos⟩
  have HK:Hid (k=min c.batch q.length):=hk
  generalize rkG (laneOf c.age) q0 1000=r at *
  clear h hp hq0 hd hrk hrp H hk
  unfold ptr
  go_enter func207,ntmps207
  go_wp2_with fail
  go_fit hR
  rintro e w1 ⟨⟨v1,rfl,hs1,hv1⟩,hb1'⟩
  obtain⟨g1,o1,cap1,rfl,hcap1,hcapm⟩:=hs1.addr hpos
  have hg1:w.heap.size<=g1:=hv1 hpos g1 rfl
  have HB1:Hid (Below w.heap.size w w1):=hb1'
  have HS1:Hid (Sl w1 193 6 (.slice (some ⟨g1,o1,none⟩) q.length cap1) q.length (r.flatMap (cP c.age))):=hs1
  have d2:=jcell_after hb1' c2
  clear hR hs1 hv1 hb1' c2 c9
  go_wp2_with fail
  have hsl:Hid (∀y∈r,IsSl y.2):=λy hy=>HY.out.sl y (HR.out.2.mem_iff.1 hy)
  have hrl':r.length=q.length:=hrl.out
  clear d2 hmin
  go_loopw [5,32] (λlv iv wr=>∃j:Nat,j<=k/\iv=.int .i64 j/\Hid (wr.ownsRow w1.heap.size 273 2 lv j (((r.take j).map cwOf).flatMap cC))/\Hid (Below w1.heap.size w1 wr)) (λ_ i _=>k-(intOf i).toNat)
  case atStart=>exact⟨0,Nat.zero_le _,rfl,World.ownsRow_nil _ _ _ _,Below.refl _ _⟩
  case round=>
    obtain⟨j,hj,rfl,hr,hb⟩:=hrel
    by_cases hlj:j<k
    · have hlr:j<r.length:=by omega
      have kk:∀i (u:Value),i<6->(cP c.age r[j])[i]? =some u->wr.cell? ⟨g1,o1+j*6+i,none⟩=some u:=λi u hi hu=>by
        have:=HS1.out.cell (j:=j*6+i) (u:=u) (by rw[flat_get (cP c.age) 6 (λ_=>rfl) r j i hlr hi];exact hu)
        rw[Nat.add_assoc];exact jcell_after hb.out this
      obtain⟨ea,en,ec,he⟩:=hsl.out _ (List.getElem_mem hlr)
      have d0:wr.cell? ⟨g1,o1+j*6,none⟩=some (.int .i64 r[j].1.id):=kk 0 _ (by decide) rfl
      have d1:=kk 1 (.int .i64 r[j].1.lane) (by decide) rfl
      have d2:=kk 2 (.int .i64 r[j].1.passed) (by decide) rfl
      have d3:=kk 3 (.int .i64 c.age) (by decide) rfl
      have d4:=kk 4 (.int .i64 r[j].1.ord) (by decide) rfl
      have d5:=kk 5 (.slice ea en ec) (by decide) (by rw[<-he];rfl)
      have HW:Hid (((r.take (j+1)).map cwOf).flatMap cC=((r.take j).map cwOf).flatMap cC++[.int .i64 r[j].1.id,.slice ea en ec]):=by
        show _=_
        rw[List.take_succ_eq_append_getElem hlr,List.map_append,List.flatMap_append];simp[cC,cwOf,Ch.cg,he]
      generalize r[j].1.id=x0 at *
      generalize r[j].1.lane=x1 at *
      generalize r[j].1.passed=x2 at *
      generalize r[j].1.ord=x4 at *
      clear he kk hrl'
      have q1:Hid (j+1<=maxLen):=by show _<=_;unfold maxLen;omega
      have q2:Hid ((j+1)*32<=140737488355328):=by show _<=_;omega
      have q3:Hid (∀o o',w1.heap.size<=((wr.alloc o).alloc o').heap.size):=λo o'=>by
        have:=hb.out.size
        show w1.heap.size<=_
        simp;omega
      go_wp2_with (at_builtin;refine wpList_append_own_at _ rfl (.tmp 36) (.tmp 43) _ rfl w1.heap.size _ i0 _ 2 32 underlying237 hi0 hz0 hz1 hz2 rfl (by decide) u5 _ _ rfl (World.ownsRow.alloc (World.ownsRow.alloc hr.out _) _) ⟨wr.heap.size+1,0,none⟩ 1 1 [.int .i64 x0,.slice ea en ec] rfl rfl (cells_new2 wr _ _ _) (by simp[Value.oneCell']) q1.out q2.out (q3.out _ _) ?_;intro v3 w3 hown3 hg3 hnil3 hloc3)
      refine⟨⟨j+1,hlj,by go_num,?_,?_⟩,by simp[intOf];omega⟩
      · show w3.ownsRow _ _ _ _ _ _
        rw[HW.out]
        exact hown3
      · exact((hb.out.alloc hb.out.size _).alloc (q3' hb.out _) _).grown hg3 (q3.out _ _) (λi hi=>(World.ownsRow.lt hr.out i hi).1)
    · obtain rfl:j=k:=by omega
      obtain⟨a5,c5,rfl⟩:=row_form hr.out
      have HRow:Hid (Sl wr 273 2 (.slice a5 j c5) j (((r.take j).map cwOf).flatMap cC)):=Sl.of_row hr.out
      have HNew:Hid (∀g,(Value.slice a5 j c5).ownBlock=some g->w1.heap.size<=g):=λg hg=>(World.ownsRow.lt hr.out g hg).1
      have HB2:Hid (Below w.heap.size w wr):=below_then HB1.out hb.out
      obtain⟨tl,zs,hrest⟩:=HY.out.rest
      have hzs:zs=[]:=by
        have:=hrest.train.snd
        rw[hs] at this
        exact List.map_eq_nil_iff.1 this
      subst hzs
      have hBA:Bx (wr.alloc (.cells (segCells (.slice a5 j c5) 0 0 (.pointer none)) 240)) yb 201 (yardCells c x s.begun s.now (.slice qa q.length qcap) sb s.outs.length ov):=(HY.out.box.later HB2.out).mk _
      have hTA:Sl (wr.alloc (.cells (segCells (.slice a5 j c5) 0 0 (.pointer none)) 240)) 210 1 x.tv 0 []:=(hrest.train.row.later HB2.out).mk _
      have hA:=segAdd yb 11 0 201 (some ⟨wr.heap.size,0,none⟩) x.tv _ [] _ hBA rfl hTA (hTA.ne hBA (by decide)) (by omega)
      have HBA:Hid (Bx (wr.alloc (.cells (segCells (.slice a5 j c5) 0 0 (.pointer none)) 240)) yb 201 (yardCells c x s.begun s.now (.slice qa q.length qcap) sb s.outs.length ov)):=hBA
      have HTA:Hid (Sl (wr.alloc (.cells (segCells (.slice a5 j c5) 0 0 (.pointer none)) 240)) 210 1 x.tv 0 []):=hTA
      have HXA:Hid (Bx (wr.alloc (.cells (segCells (.slice a5 j c5) 0 0 (.pointer none)) 240)) wr.heap.size 240 (segCells (.slice a5 j c5) 0 0 (.pointer none))):=Bx.new _ _ _
      have HBw:Hid (Below w.heap.size w (wr.alloc (.cells (segCells (.slice a5 j c5) 0 0 (.pointer none)) 240))):=below_then HB2.out (below_new _ _)
      have HB1w:Hid (Below w1.heap.size w1 (wr.alloc (.cells (segCells (.slice a5 j c5) 0 0 (.pointer none)) 240))):=below_then hb.out (below_new _ _)
      have HRA:Hid (Sl (wr.alloc (.cells (segCells (.slice a5 j c5) 0 0 (.pointer none)) 240)) 273 2 (.slice a5 j c5) j (((r.take j).map cwOf).flatMap cC)):=HRow.out.mk _
      unfold segCells at hA HBA HTA HXA HBw HB1w HRA
      clear hBA hTA hr hrest hrl'
      go_wp2_with fail
      generalize wr.alloc (.cells #[.slice a5 j c5,.int .i64 0,.int .i64 0,.pointer none] 240)=wA at *
      have hwp:w.heap.size<=wr.heap.size:=HB2.out.size
      generalize wr.heap.size=p at *
      clear HRow HB2 hb hj hlj
      go_fit hA
      rintro e w4 ⟨rfl,tv',hB4,hT4,hL4,hO4⟩
      have hOA:OnlyT wA w4 S [201,210]:=OnlyT.mk hO4 λg hg e=>by
        rcases e with rfl|e
        · exact⟨HY.out.fy,201,by simp,Bx.ty HBA.out⟩
        · obtain⟨tl,zs,hrest⟩:=HY.out.rest
          exact⟨hrest.train.own g e,210,by simp,Sl.ty HTA.out e⟩
      have hS4:Sl w4 193 6 (.slice (some ⟨g1,o1,none⟩) q.length cap1) q.length (r.flatMap (cP c.age)):=hOA.sl (HS1.out.later HB1w.out) (by decide)
      have hD:=delete_first r c.age j g1 o1 cap1 w4 (by rw[hrl.out];exact hS4) hsl.out hk0 (by rw[hrl.out];exact hkl) (by rw[hrl.out];exact hn)
      rw[hrl.out] at hD
      have HOA:Hid (OnlyT wA w4 S [201,210]):=hOA
      have HB4:Hid (Bx w4 yb 201 (yardCells c {x with tv:=tv'} s.begun s.now (.slice qa q.length qcap) sb s.outs.length ov)):=hB4
      have HT4:Hid (Sl w4 210 1 tv' 1 [ptr p]):=hT4
      have HL4:Hid (tv'.ownBlock=x.tv.ownBlock\/∃g,tv'.ownBlock=some g/\wA.heap.size<=g):=hL4
      have HBA4:Hid (TyAt w4 yb 201):=hB4.ty
      have HS4t:Hid (TyAt w4 g1 193):=hS4.ty rfl
      clear hA hB4 hT4 hL4 hO4 hOA hS4
      go_wp2_with fail
      go_fit hD
      rintro e w5 ⟨rfl,hS5,hG5⟩
      have hgy:g1≠yb:=by omega
      have hB5:Bx w5 yb 201 (yardCells c {x with tv:=tv'} s.begun s.now (.slice qa q.length qcap) sb s.outs.length ov):=HB4.out.grown hG5 (by simpa using hgy.symm)
      have b9:=hB5.c 9 (.slice qa q.length qcap)
      have f9:=hB5.fr 9
      have hB6:Bx (w5.setCell ⟨yb,9,none⟩ (.slice (some ⟨g1,o1,none⟩) (q.length-j) cap1)) yb 201 (yardCells c {x with tv:=tv'} s.begun s.now (.slice (some ⟨g1,o1,none⟩) (q.length-j) cap1) sb s.outs.length ov):=by
        have:=hB5.set 9 (.slice (some ⟨g1,o1,none⟩) (q.length-j) cap1)
        rwa [set9] at this
      have HS6:Hid (Sl (w5.setCell ⟨yb,9,none⟩ (.slice (some ⟨g1,o1,none⟩) (q.length-j) cap1)) 193 6 (.slice (some ⟨g1,o1,none⟩) (q.length-j) cap1) (q.length-j) ((r.drop j).flatMap (cP c.age))):=hS5.grown (grown_set _ _ _ _) (λg hg e=>hgy (by cases hg;injection e with e;exact e.symm))
      have HO6:Hid (Only w4 (w5.setCell ⟨yb,9,none⟩ (.slice (some ⟨g1,o1,none⟩) (q.length-j) cap1)) (λg=>g=yb\/g=g1)):=(Only.of_grown hG5 (S:=λg=>g=yb\/g=g1) λg h=>by cases h;exact .inr rfl).set (.inl (.inl rfl))
      have HB6:Hid (Bx (w5.setCell ⟨yb,9,none⟩ (.slice (some ⟨g1,o1,none⟩) (q.length-j) cap1)) yb 201 (yardCells c {x with tv:=tv'} s.begun s.now (.slice (some ⟨g1,o1,none⟩) (q.length-j) cap1) sb s.outs.length ov)):=hB6
      clear hD hS5 hG5 hB5 HB4 hB6
      go_wp2_with fail
      generalize w5.setCell ⟨yb,9,none⟩ (.slice (some ⟨g1,o1,none⟩) (q.length-j) cap1)=w6 at *
      clear b9 f9
      go_loopw [64] (λiv wr=>∃m:Nat,m<=q.length-j/\iv=.int .i64 m/\Hid (Sl wr 193 6 (.slice (some ⟨g1,o1,none⟩) (q.length-j) cap1) (q.length-j) ((upTo (r.drop j) m).flatMap (cP c.age)))/\Hid (w6.grownBy wr (some g1))) (λi _=>q.length-j-(intOf i).toNat)
      case atStart=>exact⟨0,Nat.zero_le _,rfl,by simpa[upTo] using HS6,World.grownBy.refl _ _⟩
      case round=>
        obtain⟨m,hm,rfl,hS7,hG7⟩:=hrel
        have b9:wr.cell? ⟨yb,9,none⟩=some (.slice (some ⟨g1,o1,none⟩) (q.length-j) cap1):=(HB6.out.grown hG7.out (by simpa using hgy.symm)).cell (i:=9) rfl
        by_cases hlm:m<q.length-j
        · have hll:m<(r.drop j).length:=by rw[List.length_drop,hrl.out];exact hlm
          have hlu:m<(upTo (r.drop j) m).length:=by rw[upTo_len];exact hll
          have hmem:(r.drop j)[m].1∈s.queue:=HY.out.qs.mem_iff.1 (List.mem_map_of_mem (HR.out.2.mem_iff.1 (List.mem_of_mem_drop (List.getElem_mem hll))))
          have hps:(r.drop j)[m].1.passed<1048576000:=by
            have:=(hI.top _ hmem).2.2.1
            omega
          have e2:wr.cell? ⟨g1,o1+m*6+2,none⟩=some (.int .i64 (r.drop j)[m].1.passed):=by
            have:=hS7.out.cell (j:=m*6+2) (u:=.int .i64 (r.drop j)[m].1.passed) (by rw[flat_get (cP c.age) 6 (λ_=>rfl) _ m 2 hlu (by decide),upTo_get _ _ hll];rfl)
            rwa [<-Nat.add_assoc] at this
          have f2:=hS7.out.fr (o1+m*6+2)
          have HN:Hid (∀W:World,Sl W 193 6 (.slice (some ⟨g1,o1,none⟩) (q.length-j) cap1) (q.length-j) ((upTo (r.drop j) m).flatMap (cP c.age))->Sl (W.setCell ⟨g1,o1+m*6+2,none⟩ (.int .i64 (((r.drop j)[m].1.passed:Int)+1))) 193 6 (.slice (some ⟨g1,o1,none⟩) (q.length-j) cap1) (q.length-j) ((upTo (r.drop j) (m+1)).flatMap (cP c.age))):=λW hW=>by
            have:=hW.set (m*6+2) (.int .i64 (((r.drop j)[m].1.passed:Int)+1))
            rw[<-upTo_succ _ _ hll]
            have hf:=flat_up c.age (upTo (r.drop j) m) m hlu
            rw[upTo_get _ _ hll] at hf
            rw[hf,Nat.add_assoc]
            exact this
          generalize (r.drop j)[m].1.passed=ps at *
          clear hmem hlu
          go_wp2_with fail
          refine⟨⟨m+1,hlm,by go_num,HN.out _ hS7.out,hG7.out.trans (grown_set _ _ _ _)⟩,by simp[intOf];omega⟩
        · obtain rfl:m=q.length-j:=by omega
          go_wp2_with fail
          go_ret
          have h:=HY.out
          have hB7:Bx wr yb 201 (yardCells c {x with tv:=tv'} s.begun s.now (.slice (some ⟨g1,o1,none⟩) (q.length-j) cap1) sb s.outs.length ov):=HB6.out.grown hG7.out (by simpa using hgy.symm)
          have O1:OnlyT w w4 S [201,210]:=(OnlyT.below (ts:=[]) HBw.out).trans HOA.out (Plus.old w)
          have O2':Only w4 wr (λk=>k=yb\/k=g1):=HO6.out.trans (Only.of_grown hG7.out (S:=λk=>k=g1) λk e=>by cases e;rfl) λk e=>.inl (.inr e)
          have O:OnlyT w wr S [201,210]:=Only.trans O1 O2' λk e=>by
            rcases e with rfl|rfl
            · exact .inl ⟨h.fy,201,by simp,h.box.ty⟩
            · exact .inr hg1
          have K2:KeepT w4 wr [201,193]:=(OnlyT.mk (S:=λ_=>True) O2' λk _ e=>by
            rcases e with rfl|rfl
            · exact⟨trivial,201,by simp,HBA4.out⟩
            · exact⟨trivial,193,by simp,HS4t.out⟩).k
          obtain⟨tl,zs,hrest⟩:=h.rest
          have hmin:(s.ranked c).take j=(s.ranked c).take c.batch/\(s.ranked c).drop j=(s.ranked c).drop c.batch:=by
            have hl:(s.ranked c).length=q.length:=by rw[<-HR.out.1,List.length_map,hrl.out]
            have hk:=HK.out
            by_cases hle:c.batch<=q.length
            · rw[Nat.min_eq_left hle] at hk
              rw[hk];exact⟨rfl,rfl⟩
            · rw[Nat.min_eq_right (by omega)] at hk
              exact⟨by rw[List.take_of_length_le (by omega),List.take_of_length_le (by omega)],by rw[List.drop_eq_nil_of_le (by omega),List.drop_eq_nil_of_le (by omega)]⟩
          have hall:=upTo_all (r.drop j) (q.length-j) (by rw[List.length_drop,hrl.out];exact Nat.le_refl _)
          have hS7':=hS7.out
          rw[hall] at hS7'
          have hsz1:=HB1.out.size
          have hin:∀z∈r,z∈q:=λz hz=>HR.out.2.mem_iff.1 hz
          refine⟨rfl,⟨(r.drop j).map upP,.slice (some ⟨g1,o1,none⟩) (q.length-j) cap1,tv',⟨?_,hB7,⟨?_,λy hy=>?_,λg hg=>?_,λy hy g hg=>?_⟩,O.sub h.sub (by decide),h.outs.keptT O.k (Plus.old w) (by decide),.inl h.fy,.inl h.fs,⟨tl,[(p,Sm.new (((s.ranked c).take c.batch).map Ch.cg))],h.np,Nat.lt_of_lt_of_le hrest.ml O.size,hrest.tip.imp (λe=>e) .inl,O.map hrest.map (by decide),hrest.main.keptT O.k (Plus.old w) (by decide) (by decide),rfl,K2.sl HT4.out (by decide),λg hg=>?_,by simp,λz hz=>?_⟩,h.nt⟩⟩,O⟩
          · show (((r.drop j).map upP).map Prod.fst).Perm ((s.queue.filter _).map Ch.up)
            have e:((r.drop j).map upP).map Prod.fst=((s.ranked c).drop c.batch).map Ch.up:=by
              rw[<-hmin.2,<-HR.out.1,<-List.map_drop,List.map_map,List.map_map];rfl
            rw[e]
            exact((hI.left hc c.batch).map Ch.up).symm
          · rw[List.length_map,List.length_drop,hrl.out];exact hS7'
          · obtain⟨z,hz,rfl⟩:=List.mem_map.1 hy
            exact O.sl (h.que.eds z (hin z (List.mem_of_mem_drop hz))) (by decide)
          · cases hg;exact .inr hg1
          · obtain⟨z,hz,rfl⟩:=List.mem_map.1 hy
            exact .inl (h.que.fe z (hin z (List.mem_of_mem_drop hz)) g hg)
          · rcases HL4.out with e|⟨g',e,hg'⟩
            · rw[e] at hg;exact .inl (hrest.train.own g hg)
            · rw[e] at hg;cases hg;exact .inr (Nat.le_trans HBw.out.size hg')
          · obtain rfl:=List.mem_singleton.1 hz
            refine⟨.slice a5 j c5,.pointer none,(r.take j).map cwOf,K2.bx (HOA.out.bx HXA.out (by decide)) (by decide),⟨?_,?_,λg hg=>?_,λy hy=>?_⟩,rfl,.inr hwp⟩
            · show _=((s.ranked c).take c.batch).map Ch.cg
              rw[<-hmin.1,<-HR.out.1,<-List.map_take,List.map_map,List.map_map];rfl
            · have:=K2.sl (HOA.out.sl HRA.out (by decide)) (by decide)
              rwa [show ((r.take j).map cwOf).length=j by rw[List.length_map,List.length_take,hrl.out];exact Nat.min_eq_left hkl]
            · exact .inr (Nat.le_trans hsz1 (HNew.out g hg))
            · obtain⟨z,hz,rfl⟩:=List.mem_map.1 hy
              exact⟨O.sl (h.que.eds z (hin z (List.mem_of_mem_take hz))) (by decide),λg hg=>.inl (h.que.fe z (hin z (List.mem_of_mem_take hz)) g hg)⟩
end
end Go.Proofs.YtgamgomepdfgdaaGreat
