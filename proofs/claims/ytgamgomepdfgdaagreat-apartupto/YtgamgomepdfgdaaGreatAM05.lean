import Derived.Shelf.SlSortCmp.WholeK
import Derived.Sort.Grow
import Derived.Maps.RangeWalk
import Derived.Sort.OwnSorted
import Derived.Test.YtgamgomepdfgdaaGreatAM04
set_option maxRecDepth 100000
set_option maxHeartbeats 8000000
namespace Go.Proofs.YtgamgomepdfgdaaGreat
open Go.RowKit Go.Proofs.Tryz
theorem kh (a b:ByteArray)(w:World):
 c_ 222 #[.string a,.string b] w λe w'=>e=.returned (I (Lib.compareBytes a.data.toList b.data.toList))/\w'=w:=by
 go_enter func222,ntmps222;go_wp2;rw[run_callFunc_extern func256 (by kernel_rfl) (by kernel_rfl) (by kernel_rfl) (e:=Extern.BytealgCompare.compare) (by kernel_rfl),Lib.run_compareString];simp only[Result.andThen];rw[Oper.upon_value];go_wp2;go_ret;exact⟨rfl,rfl⟩
theorem rA (a b:ByteArray)(w:World):
 c_ 187 #[.string a,.string b] w λe w'=>e=.returned (I (Lib.compareBytes a.data.toList b.data.toList))/\w'=w:=by
 go_enter func187,ntmps187;go_wp2_with (go_at_call 222;refine(kh _ _ _).mono ?_;rintro e w' ⟨rfl,rfl⟩);go_ret;exact⟨rfl,rfl⟩
theorem rz (p b q c:ByteArray)(w:World):
 c_ 186 #[.agg #[.string p,.string b],.agg #[.string q,.string c]] w λe w'=>e=.returned (I (Lib.compareBytes p.data.toList q.data.toList))/\w'=(w.alloc (.cells #[.string p,.string b] 80)).alloc (.cells #[.string q,.string c] 80):=by
 have a:=rA p q;generalize Lib.compareBytes p.data.toList q.data.toList=r at a ⊢;go_enter func186,ntmps186;go_wp2_with (go_at_call 187;refine(a _).mono ?_;rintro e w' ⟨rfl,rfl⟩);go_ret;exact⟨rfl,rfl⟩
section
open Go.Shelf
def Tryz.sortF_ren:Go.Shelf.Ren:=⟨fun|6=>185|15=>191|14=>221|28=>232|29=>233|20=>248|21=>249|22=>250|23=>251|24=>252|25=>253|26=>254|27=>255|46=>268|47=>258|48=>259|49=>269|50=>270|57=>277|n=>n,fun|22=>24|24=>80|25=>269|3=>3|39=>276|0=>0|53=>250|55=>256|4=>4|46=>305|45=>304|50=>309|5=>5|9=>9|66=>323|70=>327|76=>335|77=>336|n=>n,fun|n=>n⟩
theorem Tryz.sortF:Go.Proofs.SlLaysF0.n6 prog Tryz.sortF_ren:={
 mixed:=by kernel_rfl
 f6:=⟨Tryz.f185.name,by decide,func185.trans (congrArg some (by kernel_rfl))⟩
 f14:=⟨Tryz.f221.name,by decide,func221.trans (congrArg some (by kernel_rfl))⟩
 f15:=func191.trans (congrArg some (by kernel_rfl))
 f20:=⟨Tryz.f248.name,by decide,func248.trans (congrArg some (by kernel_rfl))⟩
 f21:=⟨Tryz.f249.name,by decide,func249.trans (congrArg some (by kernel_rfl))⟩
 f22:=⟨Tryz.f250.name,by decide,func250.trans (congrArg some (by kernel_rfl))⟩
 f23:=⟨Tryz.f251.name,by decide,func251.trans (congrArg some (by kernel_rfl))⟩
 f24:=⟨Tryz.f252.name,by decide,func252.trans (congrArg some (by kernel_rfl))⟩
 f25:=⟨Tryz.f253.name,by decide,func253.trans (congrArg some (by kernel_rfl))⟩
 f26:=⟨Tryz.f254.name,by decide,func254.trans (congrArg some (by kernel_rfl))⟩
 f27:=⟨Tryz.f255.name,by decide,func255.trans (congrArg some (by kernel_rfl))⟩
 f28:=func232.trans (congrArg some (by kernel_rfl))
 f29:=func233.trans (congrArg some (by kernel_rfl))
 f46:=⟨Tryz.f268.name,by decide,func268.trans (congrArg some (by kernel_rfl))⟩
 f47:=func258.trans (congrArg some (by kernel_rfl))
 f48:=func259.trans (congrArg some (by kernel_rfl))
 f49:=⟨Tryz.f269.name,by decide,func269.trans (congrArg some (by kernel_rfl))⟩
 f50:=⟨Tryz.f270.name,by decide,func270.trans (congrArg some (by kernel_rfl))⟩
 f57:=⟨Tryz.f277.name,by decide,func277.trans (congrArg some (by kernel_rfl))⟩
 t0:=underlying0
 a0:=Tryz.isAgg0
 z0:=Tryz.sizeOf0
 v0:=Tryz.zeroValue0
 t3:=underlying3
 a3:=Tryz.isAgg3
 z3:=Tryz.sizeOf3
 v3:=Tryz.zeroValue3
 t4:=underlying4
 a4:=Tryz.isAgg4
 z4:=Tryz.sizeOf4
 v4:=Tryz.zeroValue4
 t5:=underlying5
 a5:=Tryz.isAgg5
 z5:=Tryz.sizeOf5
 v5:=Tryz.zeroValue5
 t9:=underlying9
 a9:=Tryz.isAgg9
 z9:=Tryz.sizeOf9
 v9:=Tryz.zeroValue9
 t22:=underlying24
 a22:=Tryz.isAgg24
 z22:=Tryz.sizeOf24
 v22:=Tryz.zeroValue24
 t25:=underlying269
 a25:=Tryz.isAgg269
 z25:=Tryz.sizeOf269
 v25:=Tryz.zeroValue269
 t39:=underlying276
 a39:=Tryz.isAgg276
 z39:=Tryz.sizeOf276
 v39:=Tryz.zeroValue276
 t45:=underlying304
 a45:=Tryz.isAgg304
 z45:=Tryz.sizeOf304
 v45:=Tryz.zeroValue304
 t46:=underlying305
 a46:=Tryz.isAgg305
 z46:=Tryz.sizeOf305
 v46:=Tryz.zeroValue305
 t50:=underlying309
 a50:=Tryz.isAgg309
 z50:=Tryz.sizeOf309
 v50:=Tryz.zeroValue309
 t53:=underlying250
 a53:=Tryz.isAgg250
 z53:=Tryz.sizeOf250
 v53:=Tryz.zeroValue250
 t55:=underlying256
 a55:=Tryz.isAgg256
 z55:=Tryz.sizeOf256
 v55:=Tryz.zeroValue256
 t66:=underlying323
 a66:=Tryz.isAgg323
 z66:=Tryz.sizeOf323
 v66:=Tryz.zeroValue323
 t70:=underlying327
 a70:=Tryz.isAgg327
 z70:=Tryz.sizeOf327
 v70:=Tryz.zeroValue327
 t76:=underlying335
 a76:=Tryz.isAgg335
 z76:=Tryz.sizeOf335
 v76:=Tryz.zeroValue335
 t77:=underlying336
 a77:=Tryz.isAgg336
 z77:=Tryz.sizeOf336
 v77:=Tryz.zeroValue336}
end
theorem mJ (s:ByteArray)(w:World):
 c_ 215 #[.string s] w λe w'=>e=.returned (.bool (fh s))/\w'=w:=by
 go_enter func215,ntmps215;go_wp2;go_ret;refine⟨?_,rfl⟩;have e:decide ((s.size:Int)<=8)=fh s:=by unfold fh;rw[decide_eq_decide];omega
 rw[<-e];rfl
theorem j4 (s:ByteArray)(w:World):
 c_ 174 #[.string s] w λe w'=>e=.returned (.bool (cQ s))/\w'=w:=by
 go_enter func174,ntmps174;go_wp2_with (go_at_call 215;refine(mJ _ _).mono ?_;rintro e w' ⟨rfl,rfl⟩)
 all_goals
  go_ret;refine⟨?_,rfl⟩;have e:cQ s=(!s.toList.isEmpty&&fh s):=rfl;rw[e]
 ·simp[*]
 rfl
theorem ow (p b:ByteArray)(w:World):
 c_ 127 #[.agg #[.string p,.string b]] w λe w'=>e=.returned (.bool (cQ p&&cQ b))/\Bl w w':=by
 go_enter func127,ntmps127;go_wp2_with (go_at_call 174;refine(j4 _ _).mono ?_;rintro e w' ⟨rfl,rfl⟩)
 ·have h:cQ p=true:=by assumption
  go_ret;exact⟨by rw[h];rfl,(n_ _ _).alloc (b_ _) _⟩
 have h:cQ p=false:=by simpa using ‹¬cQ p=true›
 go_ret;exact⟨by rw[h];rfl,(n_ _ _).alloc (b_ _) _⟩
theorem oy (p o n:ByteArray)(w:World):
 c_ 263 #[.agg #[.string p,.string o,.string n]] w λe w'=>e=.returned (.bool (jr p o n))/\Bl w w':=by
 go_enter func263,ntmps263;go_wp2_with (first|(go_at_call 174;refine(j4 _ _).mono ?_;rintro e w' ⟨rfl,rfl⟩)|(go_at_call 215;refine(mJ _ _).mono ?_;rintro e w' ⟨rfl,rfl⟩))
 all_goals
  go_ret;refine⟨?_,(n_ _ _).alloc (b_ _) _⟩;have e:jr p o n=(cQ p&&fh o&&fh n&& !(o.toList==n.toList)):=rfl;rw[e];simp[*]
theorem ox (p o n q:ByteArray)(bk:Nat)(w:World)(hq:w.cell? ⟨bk,0,none⟩=some (.string q))(hb:bk<w.heap.size):
 c_ 274 #[.agg #[.string p,.string o,.string n],Px bk] w λe w'=>e=.returned (.bool (p.toList==q.toList))/\w'=w.alloc (.cells #[.string p,.string o,.string n] 49):=by
 go_enter func274,ntmps274;go_wp2;go_ret;exact⟨rfl,rfl⟩
theorem mK (w:World):
 c_ 89 #[] w λe w'=>e=.returned (.agg #[.string ⟨#[98,101,121,111,110,100]⟩,.string ⟨#[]⟩,.string ⟨#[]⟩])/\w'=w.alloc (.cells #[.string ⟨#[98,101,121,111,110,100]⟩,.string ⟨#[]⟩,.string ⟨#[]⟩] 49):=by
 go_enter func89,ntmps89;go_wp2;exact bodyPost_ret (v:=.agg #[.string ⟨#[98,101,121,111,110,100]⟩,.string ⟨#[]⟩,.string ⟨#[]⟩]) (by simp[results,results89,go_sem]) rfl ⟨rfl,rfl⟩
section
open Go.Sort Go.Shelf
variable{os:Array Obj}{cur:Array Value}{l ss:List Fl}{base cap n:Nat}{fr:Nat×Nat}{e:TypeId}{w:World}
theorem vu (l:List Fl):(flatK cF 2 l.toArray).toList=l.flatMap cF:=by
 apply List.ext_getElem?;intro t;by_cases ht:t<l.length*2
 ·have a:t/2<l.length:=by omega
  have e:t=t/2*2+t%2:=by omega
  have f:(l.flatMap cF)[t]? =(cF l[t/2])[t%2]? :=by
   conv=>lhs;rw[e]
   exact aq cF 2 (λ_=>rfl) l (t/2) (t%2) a (by omega)
  have c:t<(flatK cF 2 l.toArray).size:=by rw[size_flatK];simpa using ht
  rw[f,Array.getElem?_toList,Array.getElem?_eq_getElem c,<-getElem!_pos _ t c,get_flatK _ _ _ t (by simpa using ht)];have d:(l.toArray)[t/2]! =l[t/2]:=by rw[getElem!_pos l.toArray (t/2) (by simpa using a)];simp
  rw[d];have b:t%2<(cF l[t/2]).length:=by show t%2<2;omega
  rw[getElem!_pos (cF l[t/2]) (t%2) b,List.getElem?_eq_getElem b]
 rw[List.getElem?_eq_none (by rw[Array.length_toList,size_flatK];simp;omega),List.getElem?_eq_none (by rw[aR cF 2 (λ_=>rfl)];omega)]
theorem kS (l:List Fl):(flatK cF 2 l.toArray).size=l.length*2:=by rw[size_flatK];simp
theorem tG {g:Nat}(hb:w.heap[g]? =some (.cells cur e (0,0)))(ht:cur.toList.take (l.length*2)=l.flatMap cF):HoldsK cF 2 w g 0 l.toArray:=by
 intro j hj;have a:j<l.length*2:=by rw[kS] at hj;exact hj
 refine⟨?_,by simp[World.frozen?,hb]⟩;have b:(cur.toList.take (l.length*2))[j]? =(flatK cF 2 l.toArray).toList[j]? :=by rw[ht,vu]
 rw[List.getElem?_take_of_lt a,Array.getElem?_toList,Array.getElem?_toList,Array.getElem?_eq_getElem hj] at b;simp only[World.cell?,hb,O_];simp only[Option.isSome_none,Bool.false_eq_true,if_false];rw[b,getElem!_pos (flatK cF 2 l.toArray) j hj];rfl
theorem qj {g:Nat}(d:Array Fl)(hb:w.heap[g]? =some (.cells cur e fr)):
 (sortWorldK cF 2 w g 0 n d os).heap[g]? =some (.cells (putCells id 0 (flatK cF 2 d) cur) e fr):=by
 have a:g<w.heap.size:=(j_.1 hb).1;unfold sortWorldK putRowK;rw[heap_grow_old _ _ (by simpa[putRow,mapBlock,Sort.ahead] using a)];simp[putRow,mapBlock,Sort.ahead,Array.getElem?_modify,hb,onCells]
theorem lU {g:Nat}(d:Array Fl):w.grownBy (sortWorldK cF 2 w g 0 n d os) (some g):=by
 unfold sortWorldK putRowK;refine⟨rfl,rfl,rfl,by simp[putRow,mapBlock,Sort.ahead,grow],λk hk hne=>?_⟩;rw[heap_grow_old _ _ (by simpa[putRow,mapBlock,Sort.ahead] using hk)];have:g≠k:=λe=>hne (by rw[e]);simp[putRow,mapBlock,Sort.ahead,Array.getElem?_modify,this]
theorem nh (cur F:Array Value)(h:F.size<=cur.size):(putCells id 0 F cur).toList.take F.size=F.toList:=by
 apply List.ext_getElem?;intro j;by_cases hj:j<F.size
 ·rw[List.getElem?_take_of_lt hj,Array.getElem?_toList,Array.getElem?_toList];simp[putCells,hj,show j<cur.size by omega]
 rw[List.getElem?_take_eq_none (by omega),List.getElem?_eq_none (by simp;omega)]
theorem lT {g:Nat}{ts:List Fl}(hl:ts.length=ss.length)(hbase:base<=g)(hb:w.heap[g]? =some (.cells cur e (0,0)))(h1:ss.length<=cap)(h2:cap<=maxLen)(h3:cur.size=cap*2):
 (sortWorldK cF 2 w g 0 n ts.toArray os).ownsRow base e 2 (s_ g 0 ss.length cap) ss.length (ts.flatMap cF):=by
 refine⟨by rw[aR cF 2 (λ_=>rfl),hl],.inr ⟨g,cap,_,rfl,hbase,qj _ hb,h1,h2,by simp[putCells,h3],?_⟩⟩;rw[<-hl,<-kS ts,<-vu ts];exact nh cur _ (by rw[kS];omega)
def yC (x y:Fl):Int:=Lib.compareBytes x.1.data.toList y.1.data.toList
theorem gN:∀(a b:List UInt8),Lib.compareBytes a b<0↔a<b
 |[],[]=>by simp[Lib.compareBytes]
 |[],_::_=>by simp[Lib.compareBytes]
 |_::_,[]=>by simp[Lib.compareBytes]
 |a::x,b::y=>by
  unfold Lib.compareBytes
  rw[List.cons_lt_cons_iff]
  by_cases h1:a<b
  ·simp[h1]
  by_cases h2:b<a
  ·have:a≠b:=λe=>by subst e;exact absurd h2 h1
   simp[h1,h2,this]
  have:a=b:=UInt8.le_antisymm (UInt8.not_lt.1 h2) (UInt8.not_lt.1 h1)
  simp[this,gN x y]
theorem ltF (x y:Fl):ltOf yC x y=decide (x.1.data.toList<y.1.data.toList):=by
 unfold ltOf yC;rw[decide_eq_decide];exact gN _ _
theorem E0:SWO (ltOf yC) where
 irrefl x:=by rw[ltF];simp
 trans x y z h1 h2:=by rw[ltF] at *;simp at *;exact List.lt_trans h1 h2
 ntrans x y z h1 h2:=by
  rw[ltF] at *;simp only[decide_eq_false_iff_not,List.not_lt] at *;exact List.le_trans h2 h1
theorem yD (blk off size:Nat)(w:World):CmpLays prog 186 #[] cF 2 yC blk off size w:=by
 intro m os dk _ x y;refine(rz x.1 x.2 y.1 y.2 _).mono ?_;rintro e a ⟨rfl,rfl⟩;exact⟨rfl,0,_,by rw[alloc_eq_grow,alloc_eq_grow,grow_grow];rfl⟩
theorem yB (l:List Fl)(g cap base:Nat)(w:World)(hrow:w.ownsRow base 80 2 (s_ g 0 l.length cap) l.length (l.flatMap cF))(hn:l.length<8796093022208):
 c_ 185 #[s_ g 0 l.length cap,.func (.func 186) #[] #[]] w λe w'=>
  e=.returned (.tuple #[])/\(∃l':List Fl,l'.Perm l/\l'.Pairwise (λa b=>¬b.1.data.toList<a.1.data.toList)/\w'.ownsRow base 80 2 (s_ g 0 l'.length cap) l'.length (l'.flatMap cF))/\w.grownBy w' (some g):=by
 rcases hrow.2 with ⟨p,_⟩|⟨H,s,cur,q,d,r,C,D,E,F⟩
 ·cases p
 cases q
 have B:=enters_of func186 (by kernel_rfl) rfl;have o:=AnyQ.slices_SortFunc Tryz.sortF 2 Tryz.isAgg80 Tryz.sizeOf80 cF (λ_=>rfl) (λx v q=>by simp[cF] at q;rcases q with rfl|rfl<;>rfl) yC E0 186 #[] g 0 cap l.toArray w B (yD g 0 _ w) (tG r F) (j_.1 r).1 (by simp;omega);have f:c_ 185 #[s_ g 0 l.length cap,.func (.func 186) #[] #[]] w _:=o;refine f.mono ?_;rintro e w' ⟨rfl,c,n,os,u,G,rfl⟩;have m:c.size=l.length:=by simpa using u.1
 have y:c=c.toList.toArray:=by simp
 have k:c.toList.Perm l:=by
  have h:=u.2.2;have z:c.extract 0 l.toArray.size=c:=by rw[List.size_toArray,<-m];exact Array.extract_size
  have A:l.toArray.extract 0 l.toArray.size=l.toArray:=Array.extract_size;rw[z,A] at h;exact h
 refine⟨rfl,⟨c.toList,k,?_,?_⟩,lU _⟩
 ·rw[List.pairwise_iff_getElem];intro i j hi hj hij;have:=G i j (k_ _) hij (by simp only[List.size_toArray];rw[Array.length_toList] at hj;omega);rw[ltF,decide_eq_false_iff_not] at this;rw[Array.length_toList] at hi hj;rw[getElem!_pos c i hi,getElem!_pos c j hj] at this;simpa using this
 rw[y];have t:c.toList.length=l.length:=by rw[Array.length_toList];exact m
 have:=lT (w:=w) (base:=base) (g:=g) (cap:=cap) (n:=n) (e:=80) (os:=os) (cur:=cur) (ss:=l) (ts:=c.toList) t d r C D E;simpa[t,m] using this
end
section
variable{l ss:List Fl}{b k:Nat}{v:Value}
def Beh (ss:List Fl)(f:Fl):Prop:=∀x∈ss,x.1.data.toList<f.1.data.toList
theorem qp (f:Fl):Beh [] f:=λx hx=>by simp at hx
theorem yO (hr:fi ss)(h:ss.length-1<ss.length)(f:Fl):Beh ss f↔(ss[ss.length-1]).1.data.toList<f.1.data.toList:=by
 constructor
 ·intro hb;exact hb _ (i_ h)
 intro hl x hx;obtain⟨i,a,rfl⟩:=Q_.1 hx;by_cases e:i=ss.length-1
 ·subst e;exact hl
 exact List.lt_trans (List.pairwise_iff_getElem.1 hr i (ss.length-1) a h (by omega)) hl
def ir (l ss:List Fl):Prop:=fi ss/\∃rest,l.Perm (ss++rest)/\∀f∈rest,Beh ss f
theorem wK (l:List Fl):ir l []:=⟨List.Pairwise.nil,l,.refl _,λf _=>qp f⟩
theorem yP (h:ir l ss)(hl:ss.length<l.length):∃f∈l,Beh ss f:=by
 obtain⟨_,a,b,c⟩:=h;have:=b.length_eq;rw[a_] at this;cases a with
 |nil=>simp at this;omega
 |cons f r=>exact⟨f,b.mem_iff.2 (by simp),c f (by simp)⟩
theorem Bb (h:ir l ss)(hl:¬ss.length<l.length):ss.Perm l:=by
 obtain⟨_,a,b,_⟩:=h;have:=b.length_eq;rw[a_] at this;have e:a=[]:=List.length_eq_zero_iff.1 (by omega);subst e;rw[T_] at b;exact b.symm
theorem CB (h:ir l ss):ss.length<=l.length:=by
 obtain⟨_,a,b,_⟩:=h;have:=b.length_eq;rw[a_] at this;omega
theorem yQ {a b:Fl}(h:a.1≠b.1)(hn:¬a.1.data.toList<b.1.data.toList):b.1.data.toList<a.1.data.toList:=by
 rcases Classical.em (b.1.data.toList<a.1.data.toList) with c|c
 ·exact c
 exact absurd (fK (List.le_antisymm (List.not_lt.1 c) (List.not_lt.1 hn))) h
theorem yR (h:ir l ss)(ha:dr Prod.fst l){a:Fl}(hal:a∈l)(hb:Beh ss a)(hmin:∀f∈l,Beh ss f->¬f.1.data.toList<a.1.data.toList):ir l (ss++[a]):=by
 obtain⟨n,d,e,c⟩:=h
 have i:a∈d:=by
  rcases E_.1 (e.mem_iff.1 hal) with h|h
  ·exact absurd (hb a h) (List.lt_irrefl _)
  exact h
 obtain⟨s,t,rfl⟩:=List.append_of_mem i;have g:=e.pairwise ha (fun {x y} hxy=>hxy.symm)
 have j:∀f∈s++t,f.1≠a.1:=by
  have m:=(List.pairwise_append.1 g).2.1;have k:=List.pairwise_append.1 m;intro f hf;rcases E_.1 hf with h|h
  ·exact k.2.2 f h a (by simp)
  exact((List.pairwise_cons.1 k.2.1).1 f h).symm
 refine⟨List.pairwise_append.2 ⟨n,List.pairwise_singleton _ _,λx hx y hy=>by rw[o_.1 hy];exact hb x hx⟩,s++t,?_,?_⟩
 ·refine e.trans ?_;rw[A_];exact List.Perm.append_left ss List.perm_middle
 intro f hf x hx
 have b:f∈s++a::t:=by
  rcases E_.1 hf with h|h
  ·exact List.mem_append_left _ h
  exact List.mem_append_right _ (List.mem_cons_of_mem _ h)
 rcases E_.1 hx with h|h
 ·exact c f b x h
 rw[o_.1 h];exact yQ (j f hf) (hmin f (e.mem_iff.2 (List.mem_append_right _ b)) (c f b))
def Bst (l ss:List Fl)(k:Nat)(v:Value):Prop:=
 (v=I (-1)/\∀j (_:j<k) (h':j<l.length),¬Beh ss l[j])\/
 ∃b:Nat,v=I b/\b<k/\∃hb:b<l.length,Beh ss l[b]/\∀j (_:j<k) (h':j<l.length),Beh ss l[j]->¬l[j].1.data.toList<l[b].1.data.toList
theorem pb (l ss:List Fl):Bst l ss 0 (I (-1)):=.inl ⟨rfl,λj h=>by omega⟩
theorem yS (h:Bst l ss k v)(hk:k<l.length)(hn:¬Beh ss l[k]):Bst l ss (k+1) v:=by
 rcases h with ⟨e,h⟩|⟨b,e,f,d,a,c⟩
 ·exact .inl ⟨e,λj hj hj'=>by
   by_cases x:j=k
   ·subst x;exact hn
   exact h j (by omega) hj'⟩
 exact .inr ⟨b,e,by omega,d,a,λj hj hj' hB=>by
  by_cases x:j=k
  ·subst x;exact absurd hB hn
  exact c j (by omega) hj' hB⟩
theorem pa (h:∀j (_:j<k) (h':j<l.length),¬Beh ss l[j])(hk:k<l.length)(hb:Beh ss l[k]):Bst l ss (k+1) (I k):=
 .inr ⟨k,rfl,by omega,hk,hb,λj hj hj' hB=>by
  by_cases x:j=k
  ·subst x;exact List.lt_irrefl _
  exact absurd hB (h j (by omega) hj')⟩
theorem rK (hb:b<l.length)(h:∀j (_:j<k) (h':j<l.length),Beh ss l[j]->¬l[j].1.data.toList<l[b].1.data.toList)(hk:k<l.length)(hB:Beh ss l[k])(hlt:l[k].1.data.toList<l[b].1.data.toList):Bst l ss (k+1) (I k):=
 .inr ⟨k,rfl,by omega,hk,hB,λj hj hj' hBj=>by
  by_cases x:j=k
  ·subst x;exact List.lt_irrefl _
  exact λhl=>h j (by omega) hj' hBj (List.lt_trans hl hlt)⟩
theorem rJ (hbk:b<k)(hb:b<l.length)(h1:Beh ss l[b])(h:∀j (_:j<k) (h':j<l.length),Beh ss l[j]->¬l[j].1.data.toList<l[b].1.data.toList)(hk:k<l.length)(hlt:¬l[k].1.data.toList<l[b].1.data.toList):Bst l ss (k+1) (I b):=
 .inr ⟨b,rfl,by omega,hb,h1,λj hj hj' hBj=>by
  by_cases x:j=k
  ·subst x;exact hlt
  exact h j (by omega) hj' hBj⟩
theorem vz (h:Bst l ss k v)(hk:¬k<l.length)(hs:ir l ss)(hlt:ss.length<l.length)(ha:dr Prod.fst l):
 ∃b:Nat,v=I b/\∃hb:b<l.length,ir l (ss++[l[b]]):=by
 rcases h with ⟨_,h⟩|⟨b,e,m,hb,g,i⟩
 ·obtain⟨f,c,a⟩:=yP hs hlt;obtain⟨j,d,rfl⟩:=Q_.1 c;exact absurd a (h j (by omega) d)
 refine⟨b,e,hb,yR hs ha (i_ hb) g λf c a=>?_⟩;obtain⟨j,d,rfl⟩:=Q_.1 c;exact i j (by omega) d a
section
open Go.Maps
variable{g:ByteArray->ByteArray}{D:DataW Unit}
def fd (p b:ByteArray):DataW Unit:=.agg [.lit (.string p.data.toList),.lit (.string b.data.toList)]
theorem tp {p b q c:ByteArray}(h:fd p b=fd q c):p=q/\b=c:=by
 simp only[fd,DataW.agg.injEq,List.cons.injEq,DataW.lit.injEq,Lit.string.injEq,and_true] at h;exact⟨fK h.1,fK h.2⟩
def bK:Value->Option (DataW Unit×List MemPlace)
 |.agg ⟨[.string p,.string b]⟩=>some (fd p b,[])
 |_=>none
theorem lE (p b:ByteArray):bK (.agg #[.string p,.string b])=some (fd p b,[]):=rfl
theorem ii {y:DataW Unit×List MemPlace}(h:bK v=some y):∃p b,v=.agg #[.string p,.string b]/\y=(fd p b,[]):=by
 unfold bK at h;split at h
 ·rename_i p b;exact⟨p,b,rfl,(Option.some.inj h).symm⟩
 cases h
abbrev kl (s:ByteArray):Lit:=.string s.data.toList
theorem tt {s t:ByteArray}(h:kl s=kl t):s=t:=fK (Lit.string.inj h)
def cX (D:DataW Unit)(g:ByteArray->ByteArray):Prop:=
 ∀s,(g s=⟨#[]⟩->Maps.has D (kl s)=false)/\(g s≠⟨#[]⟩->Maps.has D (kl s)=true/\∀z,D.atKey (kl s) z=fd s (g s))
theorem cX.made:cX (.map []) λ_=>⟨#[]⟩:=λ_=>⟨λ_=>rfl,λh=>absurd rfl h⟩
theorem cX.put (h:cX D g)(hD:IsMap D)(p:ByteArray){b:ByteArray}(hb:b≠⟨#[]⟩):cX (D.put (kl p) (fd p b)) (upd g p b):=by
 intro s;by_cases e:p=s
 ·subst e;rw[mm];exact⟨λx=>absurd x hb,λ_=>⟨has_put_same hD (show WideAt.IsKeyLit (kl p) from trivial) _,λz=>atKey_put_same hD (show WideAt.IsKeyLit (kl p) from trivial) _ z⟩⟩
 rw[iZ _ _ e];have a:kl s≠kl p:=λx=>e (tt x).symm;rw[has_put_other a];exact⟨(h s).1,λx=>⟨((h s).2 x).1,λz=>by rw[atKey_put_other a];exact((h s).2 x).2 z⟩⟩
theorem cX.del (h:cX D g)(p:ByteArray):cX (D.del (kl p)) (upd g p ⟨#[]⟩):=by
 intro s;by_cases e:p=s
 ·subst e;rw[mm];exact⟨λ_=>has_del_same,λx=>absurd rfl x⟩
 rw[iZ _ _ e];have a:kl s≠kl p:=λx=>e (tt x).symm;rw[has_del_other a];exact⟨(h s).1,λx=>⟨((h s).2 x).1,λz=>by rw[atKey_del_other a];exact((h s).2 x).2 z⟩⟩
theorem vY:Keyed prog 9:=string_keyed underlying9
theorem fH:prog.underlying 132=some (.map 9 80):=underlying132
theorem Av {s:ByteArray}(h:s.size<=maxLen):keyOf prog 9 (.string s)=some (kl s):=Go.WideMaps.keyOf_string_mk underlying9 h
theorem xU (w:World):(zeroValue 80).run prog w=.ok (.agg #[.string ⟨#[]⟩,.string ⟨#[]⟩]) w:=by kernel_rfl
section
variable (w : World) {ops : Array Oper} {rest : List Oper} {o : Oper} {a : Act} {Q : Exit → Act → World → Prop}
theorem pW (hg:o.guard=none)(m x:Operand)(hop:o.op=Op.lookup 132 m x true)(b n:Nat)(D:DataW Unit)(g:ByteArray->ByteArray)(hM:cX D g)(hm:a.eval m=.map (some b))(hown:w.ownsMap prog 9 bK b n D)(s:ByteArray)(hs:s.size<=maxLen)(hx:a.eval x=.string s)(hK:∀(p c:ByteArray) (r:Bool),Hid (r=true↔g s≠⟨#[]⟩)->wpList prog ops Q rest (a.put o.dst (.tuple #[.agg #[.string p,.string c],.bool r])) w):
 wpList prog ops Q (o::rest) a w:=
 wpList_lookup_own_ok w hg m x _ hop _ _ vY fH bK (xU w) (fd ⟨#[]⟩ ⟨#[]⟩) [] rfl b n D hm hown _ _ hx (Av hs) (λv ps hv=>by
  obtain⟨p,c,rfl,_⟩:=ii hv
  refine hK p c _ ?_
  constructor
  ·intro h e;rw[(hM s).1 e] at h;cases h
  intro h;exact((hM s).2 h).1)
theorem vX (hg:o.guard=none)(m x:Operand)(hop:o.op=Op.lookup 132 m x false)(b n:Nat)(D:DataW Unit)(g:ByteArray->ByteArray)(hM:cX D g)(hm:a.eval m=.map (some b))(hown:w.ownsMap prog 9 bK b n D)(s:ByteArray)(hs:s.size<=maxLen)(hx:a.eval x=.string s)(hK:∀(p:ByteArray),wpList prog ops Q rest (a.put o.dst (.agg #[.string p,.string (g s)])) w):
 wpList prog ops Q (o::rest) a w:=by
 refine wpList_plain hg λK' hK'=>?_;obtain⟨v,j,d,i⟩:=hown.lookup vY fH (xU w) (zd:=fd ⟨#[]⟩ ⟨#[]⟩) (zp:=[]) rfl (Av hs);obtain⟨p,c,rfl,f⟩:=ii i
 have h:c=g s:=by
  by_cases e:g s=⟨#[]⟩
  ·rw[atKey_of_not_has ((hM s).1 e)] at f;rw[e];exact(tp (congrArg Prod.fst f)).2.symm
  rw[((hM s).2 e).2] at f;exact(tp (congrArg Prod.fst f)).2.symm
 subst h;unfold Oper.wp;simp[execOp,hop,hm,hx,d,Result.andThen];exact hK' _ _ (hK p)
end
theorem vi (b n:Nat)(D:DataW Unit)(g:ByteArray->ByteArray)(p c:ByteArray)(w:World)(hown:w.ownsMap prog 9 bK b n D)(hM:cX D g)(hp:p.size<=maxLen)(hn:n<maxLen):
 c_ 128 #[.map (some b),.agg #[.string p,.string c]] w λe w'=>e=.returned (.tuple #[])/\(∃D',w'.ownsMap prog 9 bK b (n+1) D'/\cX D' (upd g p c))/\w.grownBy w' (some b):=by
 have f:=v_ w (.cells #[.string p,.string c] 80) (some b);have a:=hown.alloc (.cells #[.string p,.string c] 80);by_cases hc:c.toList.isEmpty=true
 ·have h:c.toList=[]:=by simpa using hc
  have d:=hd ((iY c).1 hc);go_enter func128,ntmps128;go_wp2_with (at_delete;refine wpList_delete_own _ rfl _ _ _ _ rfl _ vY fH _ b n D rfl a _ _ rfl (Av hp) ?_;intro w1 hown2 hturn2);refine bodyPost_ret (v:=.tuple #[]) (results_none (by kernel_rfl) _ _ _) rfl ?_;exact⟨rfl,⟨_,hown2.mono (Nat.le_succ n),by rw[d.out];exact hM.del p⟩,f.trans hturn2.grown⟩
 have h:c.toList.isEmpty=false:=by simpa using hc
 have d:Hid (c≠⟨#[]⟩):=λe=>hc ((iY c).2 e);go_enter func128,ntmps128;go_wp2_with (at_mapUpdate;refine wpList_mapUpdate_own _ rfl _ _ _ _ rfl _ _ vY fH _ b n D rfl a hn _ _ _ rfl rfl (Av hp) _ [] (lE p c) ?_;intro w1 hown2 hg2);go_end0;exact⟨rfl,⟨_,hown2,hM.put hown.isMap p d.out⟩,f.trans hg2⟩
end
section
open Go.Maps
variable{D:DataW Unit}{n:Nat}{w w' w1 w2 wr:World}
theorem qf {f:Fl}(h:∀x∈l,x.1≠f.1):aF (l++[f])=upd (aF l) f.1 f.2:=by
 funext q;induction l with
 |nil=>simp[aF,upd]
 |cons x l a=>
  have a:=a λy hy=>h y (by simp[hy]);have c:=h x (by simp);by_cases e:x.1=q
  ·rw[List.cons_append,eQ _ _ _ ((aY _ _).2 e),iZ _ _ (by rw[<-e];exact c.symm),eQ _ _ _ ((aY _ _).2 e)]
  have b:=(bS x.1 q).2 e;rw[List.cons_append,dp _ _ _ b,a];unfold upd;rw[dp _ _ _ b]
theorem lS (hk:k<l.length)(hg:cB dy Prod.fst (l.take k)):aF (l.take k) l[k].1≠⟨#[]⟩↔∃j,∃h:j<k,(l[j]'(by omega)).1=l[k].1:=by
 constructor
 ·intro h;have:=gp h;obtain⟨j,c,e⟩:=Q_.1 this;rw[l_] at c;rw[List.getElem_take] at e;exact⟨j,by omega,by rw[e]⟩
 rintro⟨j,c,e⟩ f;have d:l[j]'(by omega)∈l.take k:=Q_.2 ⟨j,by rw[l_];omega,by rw[List.getElem_take]⟩;have a:=dN hg.2 d;rw[e,f] at a;have b:=((dz _).1 (hg.1 _ d)).2.1;rw[<-a] at b;exact absurd b (by decide)
def qe (e:Ending)(w w':World)(l:List Fl):Prop:=
 (e=.returned (.tuple #[.map (some w.heap.size),.bool true])/\cB dy Prod.fst l/\∃D,w'.ownsMap prog 9 bK w.heap.size l.length D/\cX D (aF l))\/
 (e=.returned (.tuple #[.map none,.bool false])/\¬cB dy Prod.fst l)
theorem kR (hb:Bl w wr)(o o':Obj):Bl w ((wr.alloc o).alloc o'):=
 (hb.alloc hb.size o).alloc (by have:=hb.size;simp;omega) o'
theorem fT (hb:Bl w w')(row:Option Nat):w.grownBy w' row:=⟨hb.os,hb.tape,hb.output,hb.size,λk hk _=>hb.block k hk⟩
theorem eN (h:w.ownsMap prog 9 bK b n D)(hb:Bl w w'):w'.ownsMap prog 9 bK b n D:=
 h.kept (fT hb none) (by simp)
theorem yu (n:Int)(w:World):(Instr.makeMap 132 (some (I n))).run prog w=.ok (.map (some w.heap.size)) (w.alloc (.map #[] 0)):=by
 simp[Instr.makeMap,run_underlying fH,asInt];rfl
theorem rq (h:Bl w1 w2)(e:w1.heap=wr.heap)(e1:w1.os=wr.os)(e2:w1.tape=wr.tape)(e3:w1.output=wr.output):Bl wr w2:=
 ⟨h.os.trans e1,h.tape.trans e2,h.output.trans e3,by rw[<-e];exact h.size,λk hk=>by rw[<-e] at hk ⊢;exact h.block k hk⟩
theorem yw (l:List Fl)(b off cap:Nat)(w:World)(hlt:b<w.heap.size)(hn:l.length<8796093022208)(h0:∀i (h:i<l.length),w.cell? ⟨b,off+i*2,none⟩=some (.string l[i].1))(h1:∀i (h:i<l.length),w.cell? ⟨b,off+i*2+1,none⟩=some (.string l[i].2))(hsz:∀f∈l,f.1.size<=maxLen):
 c_ 85 #[s_ b off l.length cap] w λe w'=>qe e w w' l/\Bl w w':=by
 have Z:=yu;go_enter func85,ntmps85;go_wp2;go_loopw [14] (λi wr=>∃(k:Nat) (D:DataW Unit),k<=l.length/\i=I k/\wr.ownsMap prog 9 bK w.heap.size k D/\cX D (aF (l.take k))/\Bl w wr/\Hid (cB dy Prod.fst (l.take k))) (λi _=>l.length-(intOf i).toNat)
 case atStart=>exact⟨0,_,k_ _,rfl,World.ownsMap_made _ _ _ _,cX.made,(n_ _ _).alloc (b_ _) _,cB.nil _ _⟩
 obtain⟨k,D,hk,rfl,d,M,F,Q⟩:=hrel;obtain⟨g0,g1,gb⟩:=eY F hlt h0 h1;clear h0 h1 Z;by_cases hlk:k<l.length
 ·have z:l[k].1.size<=maxLen:=hsz _ (i_ hlk);have B:=lS hlk Q.out;have a:=d.alloc (.cells #[.string l[k].1,.string l[k].2] 80);go_wp2_with (at_lookup;refine pW _ rfl _ _ rfl w.heap.size k D _ M rfl a l[k].1 z rfl ?_;intro p c r hr)
  ·have hB:Hid (¬cB dy Prod.fst l):=by
    obtain⟨j,y,e⟩:=B.1 (hr.out.1 ‹r=true›);exact ig hlk y e
   go_ret2;exact⟨.inr ⟨rfl,hB.out⟩,kR F _ _⟩
  have O:¬aF (l.take k) l[k].1≠⟨#[]⟩:=λh=>by
   have h1:=hr.out.2 h;have h2:r=false:=by simpa using ‹¬r=true›
   rw[h2] at h1;cases h1
  have W:∀j (h:j<k),(l[j]'(by omega)).1≠l[k].1:=λj y e=>O (B.2 ⟨j,y,e⟩)
  have N:∀x∈l.take k,x.1≠l[k].1:=λx R e=>by
   obtain⟨j,y,rfl⟩:=Q_.1 R;rw[l_] at y;rw[List.getElem_take] at e;exact W j (by omega) e
  have K:Hid (aF (l.take (k+1))=upd (aF (l.take k)) l[k].1 l[k].2):=by
   rw[g_ hlk];exact qf N
  have J:Hid (dy l[k]=true->cB dy Prod.fst (l.take (k+1))):=λh=>(i4 hlk).2 ⟨Q.out,h,W⟩;have H:Hid (¬dy l[k]=true->¬cB dy Prod.fst l):=λh=>i6 hlk h;clear B hr O W N;refine(ow _ _ _).mono ?_;rintro e P ⟨rfl,g⟩;have s:=(kR F _ _).trans (g.mono (kR F _ _).size);have m:=eN ((a.alloc (.cells #[.string p,.string c] 80))) g;have c0:P.cell? ⟨wr.heap.size,0,none⟩=some (.string l[k].1):=(g.cell (by simp;omega)).trans (by simp);have c1:P.cell? ⟨wr.heap.size,1,none⟩=some (.string l[k].2):=(g.cell (by simp;omega)).trans (by simp);generalize R:(cQ l[k].1&&cQ l[k].2)=x;have E:=hd R
  have q:some wr.heap.size≠some w.heap.size:=λe=>by
   have h1:=d.lt;injection e with e;omega
  clear R g d a;cases x
  ·go_wp2;go_ret2;exact⟨.inr ⟨rfl,H.out (by rw[show dy l[k]=(cQ l[k].1&&cQ l[k].2) from rfl,E.out];exact Bool.false_ne_true)⟩,s⟩
  have V:Hid (l[k].2≠⟨#[]⟩):=λe=>by
   have:=((dz l[k]).1 E.out).2.1;rw[e] at this;exact absurd this (by decide)
  have X:l[k].1.size<=281474976710656/\l[k].2.size<=281474976710656:=by
   have h1:=((dz l[k]).1 E.out).1.2;have h2:=((dz l[k]).1 E.out).2.2;constructor<;>omega
  obtain⟨s0,s1⟩:=X
  have n:Hid (∀C,Bl P C->c_ 128 #[.map (some w.heap.size),.agg #[.string l[k].1,.string l[k].2]] C λe w'=>e=.returned (.tuple #[])/\(∃D',w'.ownsMap prog 9 bK w.heap.size (k+1) D'/\cX D' (aF (l.take (k+1))))/\C.grownBy w' (some w.heap.size)):=λC h3=>by
   rw[K.out];exact vi w.heap.size k D _ l[k].1 l[k].2 C (eN m h3) M z (by unfold maxLen;omega)
  have G:=hd s;have S:=hd (J.out E.out);clear V m M z K H J F Q g0 g1 gb s E hk;generalize l[k].1=p at s0 c0 n;generalize l[k].2=o at s1 c1 n;go_wp2
  go_region_held_law (λw'=>w'.cell? ⟨wr.heap.size,0,none⟩=some (.string p)/\w'.cell? ⟨wr.heap.size,1,none⟩=some (.string o)) (go_keep) (first
   |(go_at_call 129;refine(gG p _ s0).mono ?_;rintro e w2 ⟨rfl,t⟩;have k0:w2.cell? ⟨wr.heap.size,0,none⟩=some (.string p):=bH t c0;have k1:w2.cell? ⟨wr.heap.size,1,none⟩=some (.string o):=bH t c1;have B2:Hid (Bl P w2):=rq t rfl rfl rfl rfl)
   |(go_at_call 129;refine(gG o _ s1).mono ?_;rintro e C ⟨rfl,u⟩;have k2:=bH u k0;have k3:=bH u k1;have B3:Hid (Bl P C):=B2.out.trans (u.mono B2.out.size))
   |(go_at_call 128;refine(n.out _ B3.out).mono ?_;rintro e w4 ⟨rfl,⟨D4,A,U⟩,v⟩;have k4:w4.cell? ⟨wr.heap.size,0,none⟩=some (.string p):=v.cell k2 q;have k5:w4.cell? ⟨wr.heap.size,1,none⟩=some (.string o):=v.cell k3 q))
  have L:=G.out.trans (B3.out.mono G.out.size);have T:Bl w w4:=L.grown v L.size (λj y=>by cases y;exact b_ _);clear k0 k1 k2 k3 k4 k5;go_wp2;exact⟨⟨k+1,D4,hlk,by go_num,A,U,T,S.out⟩,by simp[intOf];omega⟩
 go_wp2;go_ret2;have e:l.take k=l:=m_ (by omega);have Y:k=l.length:=by omega
 subst Y;rw[e] at M;exact⟨.inl ⟨rfl,by have:=Q.out;rwa [e] at this,D,d,M⟩,F⟩
theorem wE (a:Option Addr)(cap:Nat)(w:World):
 c_ 85 #[.slice a 0 cap] w λe w'=>qe e w w' []/\Bl w w':=by
 have b:=yu;go_enter func85,ntmps85;go_wp2;go_loop [14] (λi=>i=I 0) (λ_=>0)
 case atStart=>rfl
 subst hrel;clear b;go_wp2;go_ret2;exact⟨.inl ⟨rfl,cB.nil _ _,_,World.ownsMap_made _ _ _ _,cX.made⟩,(n_ _ _).alloc (b_ _) _⟩
theorem yx (l:List Fl)(v:Value)(w:World)(hl:ay w v l)(hn:l.length<8796093022208)(hsz:∀f∈l,f.1.size<=maxLen):
 c_ 85 #[v] w λe w'=>qe e w w' l/\Bl w w':=by
 rcases hl with ⟨rfl,a,c,rfl⟩|⟨b,g,c,rfl,d,h,i⟩
 ·exact wE a c w
 exact yw l b g c w d hn h i hsz
end
section
open Go.Maps
variable{D:DataW Unit}{bm n off:Nat}{w wr:World}
theorem rr {l:List Ed}(hg:w.grownBy wr (some bm))(hne:b≠bm)(hlt:b<w.heap.size)(h0:∀i (h:i<l.length),w.cell? ⟨b,off+i*3,none⟩=some (.string l[i].1))(h1:∀i (h:i<l.length),w.cell? ⟨b,off+i*3+1,none⟩=some (.string l[i].2.1))(h2:∀i (h:i<l.length),w.cell? ⟨b,off+i*3+2,none⟩=some (.string l[i].2.2)):
 (∀i (h:i<l.length),wr.cell? ⟨b,off+i*3,none⟩=some (.string l[i].1))/\(∀i (h:i<l.length),wr.cell? ⟨b,off+i*3+1,none⟩=some (.string l[i].2.1))/\(∀i (h:i<l.length),wr.cell? ⟨b,off+i*3+2,none⟩=some (.string l[i].2.2))/\b<wr.heap.size:=by
 have e:=hg.block b hlt (by simp[hne]);exact⟨λi h=>(L_ (w:=w) e).trans (h0 i h),λi h=>(L_ (w:=w) e).trans (h1 i h),λi h=>(L_ (w:=w) e).trans (h2 i h),h_ hlt hg.size⟩
def yy (e:Ending)(w':World)(b n:Nat)(g:ByteArray->ByteArray)(l:List Ed):Prop:=
 (e=.returned (.bool true)/\(∀x∈l,g x.1=x.2.1)/\∃D,w'.ownsMap prog 9 bK b (n+l.length) D/\cX D (ck g l))\/
 (e=.returned (.bool false)/\¬∀x∈l,g x.1=x.2.1)
theorem AS (p b:ByteArray)(w:World):(Instr.field 80 (.agg #[.string p,.string b]) 1).run prog w=.ok (.string b) w:=by kernel_rfl
theorem qi (l:List Ed)(b off cap bm n:Nat)(D:DataW Unit)(g:ByteArray->ByteArray)(w:World)(hlt:b<w.heap.size)(hne:b≠bm)(h0:∀i (h:i<l.length),w.cell? ⟨b,off+i*3,none⟩=some (.string l[i].1))(h1:∀i (h:i<l.length),w.cell? ⟨b,off+i*3+1,none⟩=some (.string l[i].2.1))(h2:∀i (h:i<l.length),w.cell? ⟨b,off+i*3+2,none⟩=some (.string l[i].2.2))(hn4:l.length<=4)(hown:w.ownsMap prog 9 bK bm n D)(hM:cX D g)(hn:n<8796093022208)(hsz:∀x∈l,x.1.size<=maxLen):
 c_ 243 #[.map (some bm),s_ b off l.length cap] w λe w'=>yy e w' bm n g l/\w.grownBy w' (some bm):=by
 have G:=AS;go_enter func243,ntmps243;go_wp2;go_loopw [11] (λi wr=>∃k:Nat,k<=l.length/\i=I k/\Bl w wr/\Hid (∀j (h:j<k) (h':j<l.length),g l[j].1=l[j].2.1)) (λi _=>l.length-(intOf i).toNat)
 case atStart=>exact⟨0,k_ _,rfl,n_ _ _,λj h=>by omega⟩
 obtain⟨k,v,rfl,d,t⟩:=hrel;by_cases hlk:k<l.length
 ·obtain⟨A,B,C,E⟩:=ct d hlt h0 h1 h2;have a:=(eN hown d).alloc (.cells #[.string l[k].1,.string l[k].2.1,.string l[k].2.2] 49);have f:=hsz _ (i_ hlk);clear h0 h1 h2 hown;go_wp2_with (at_lookup;refine vX _ rfl _ _ rfl bm n D _ hM rfl a l[k].1 f rfl ?_;intro p)
  ·have o:Hid (¬∀x∈l,g x.1=x.2.1):=λh=>by
    have e:=h _ (i_ hlk);have u:(!((g l[k].1).toList==l[k].2.1.toList))=true:=by assumption
    rw[e] at u;simp at u
   go_ret;exact⟨.inr ⟨rfl,o.out⟩,(fT d _).trans (v_ _ _ _)⟩
  have J:Hid (g l[k].1=l[k].2.1):=(aY _ _).1 (by simpa using ‹(!((g l[k].1).toList==l[k].2.1.toList))=false›);go_roundw
  case rel=>exact⟨k+1,hlk,by go_num,d.alloc d.size _,λx hx hx'=>by
   by_cases e:x=k
   ·subst e;exact J.out
   exact t.out x (by omega) hx'⟩
  case measure=>simp[intOf];omega
 have m:Hid (∀x∈l,g x.1=x.2.1):=λx hx=>by
  obtain⟨j,H,rfl⟩:=Q_.1 hx;exact t.out j (by omega) H
 have c:=fT d (some bm);have a:=eN hown d;clear hown t;go_wp2;go_loopw [26] (λi wr=>∃(k:Nat) (D:DataW Unit),k<=l.length/\i=I k/\wr.ownsMap prog 9 bK bm (n+k) D/\cX D (ck g (l.take k))/\w.grownBy wr (some bm)) (λi _=>l.length-(intOf i).toNat)
 case atStart=>exact⟨0,D,k_ _,rfl,a,hM,c⟩
 clear hM a c d v D;obtain⟨k,D,v,rfl,hown,hM,c⟩:=hrel;obtain⟨A,B,C,E⟩:=rr c hne hlt h0 h1 h2;by_cases hlk:k<l.length
 ·have f:=hsz _ (i_ hlk);have a:=hown.alloc (.cells #[.string l[k].1,.string l[k].2.1,.string l[k].2.2] 49);have F:=vi bm (n+k) D _ l[k].1 l[k].2.2 _ a hM f (by unfold maxLen;omega)
  have z:Hid (ck g (l.take (k+1))=upd (ck g (l.take k)) l[k].1 l[k].2.2):=by
   rw[g_ hlk];exact qO _ _ _
  clear h0 h1 h2 hown hM a;go_wp2_with (go_at_call 128;refine F.mono ?_;rintro e K ⟨rfl,⟨y,a,q⟩,r⟩);go_roundw
  case rel=>exact⟨k+1,y,hlk,by go_num,a,by rw[z.out];exact q,(c.trans (v_ _ _ _)).trans r⟩
  case measure=>simp[intOf];omega
 go_wp2;go_ret;have s:k=l.length:=by omega
 subst s;rw[W_] at hM;exact⟨.inl ⟨rfl,m.out,D,hown,hM⟩,c⟩
theorem qh (h:w.cell? ⟨b,off,none⟩=some v)(hown:w.ownsMap prog 9 bK bm n D):b≠bm:=by
 rintro rfl;obtain⟨d,a,c,_⟩:=hown;simp[World.cell?,c] at h
theorem qg (l:List Ed)(v:Value)(bm n:Nat)(D:DataW Unit)(g:ByteArray->ByteArray)(w:World)(hl:aH w v l)(hn1:1<=l.length)(hn4:l.length<=4)(hown:w.ownsMap prog 9 bK bm n D)(hM:cX D g)(hn:n<8796093022208)(hsz:∀x∈l,x.1.size<=maxLen):
 c_ 243 #[.map (some bm),v] w λe w'=>yy e w' bm n g l/\w.grownBy w' (some bm):=by
 rcases hl with ⟨rfl,_⟩|⟨b,d,a,rfl,c,f,h,i⟩
 ·simp at hn1
 exact qi l b d a bm n D g w c (qh (f 0 (by omega)) hown) f h i hn4 hown hM hn hsz
end
section
open Go.Maps
variable{g:ByteArray->ByteArray}{D:DataW Unit}{l':List Fl}{left:Lit->Bool}
theorem tH:(prog.info? 80).map (λi=>(i.zero,i.size,i.bytes))=some (some (.agg #[.string ⟨#[]⟩,.string ⟨#[]⟩]),2,32):=by kernel_rfl
def qm (g:ByteArray->ByteArray)(left:Lit->Bool)(ss:List Fl):Prop:=
 dr Prod.fst ss/\∀f,f∈ss↔g f.1=f.2/\f.2≠⟨#[]⟩/\left (kl f.1)=false
theorem qm.start (h:cX D g):qm g (Maps.has D) []:=by
 refine⟨List.Pairwise.nil,λf=>⟨λx=>by simp at x,?_⟩⟩;rintro⟨c,a,b⟩;rw[<-c] at a;rw[((h f.1).2 a).1] at b;cases b
theorem nj {key:Value}{k:Lit}(h:keyOf prog 9 key=some k):∃s,key=.string s/\k=kl s:=by
 cases key<;>simp[keyOf,underlying9,mapKey] at h
 rename_i s;exact⟨s,rfl,h.2.symm⟩
theorem ns (s t:ByteArray):(kl s).sameKey (kl t)=true↔s=t:=by
 constructor
 ·intro h;exact tt (WideAt.sameKey_eq h)
 rintro rfl;simp[Lit.sameKey]
theorem qm.step (hM:cX D g)(h:qm g left ss){s:ByteArray}(hl:left (kl s)=true){f:Fl}(hat:∀zd,D.atKey (kl s) zd=fd f.1 f.2):
 qm g (λz=>left z&& !z.sameKey (kl s)) (ss++[f])/\f.1=s/\f.2=g s:=by
 have j:=has_true_of_atKey hat;have i:g s≠⟨#[]⟩:=λe=>by rw[(hM s).1 e] at j;cases j
 have e:=((hM s).2 i).2 (.map []);rw[hat] at e;obtain⟨c,d⟩:=tp e;refine⟨⟨?_,λx=>?_⟩,c,d⟩
 ·refine List.pairwise_append.2 ⟨h.1,List.pairwise_singleton _ _,λa ha b hb e=>?_⟩;rw[o_.1 hb,c] at e;have:=((h.2 a).1 ha).2.2;rw[e,hl] at this;cases this
 rw[E_,o_,h.2];show _↔g x.1=x.2/\x.2≠⟨#[]⟩/\(left (kl x.1)&& !(kl x.1).sameKey (kl s))=false;by_cases ex:x.1=s
 ·have:(left (kl x.1)&& !(kl x.1).sameKey (kl s))=false:=by rw[(ns _ _).2 ex];simp
  rw[this];constructor
  ·rintro (⟨a,b,_⟩|rfl)
   ·exact⟨a,b,rfl⟩
   exact⟨by rw[c,d],by rw[d];exact i,rfl⟩
  rintro⟨a,_,_⟩;exact .inr (Prod.ext (ex.trans c.symm) (by rw[<-a,ex,d]))
 have:(kl x.1).sameKey (kl s)=false:=by
  rw[<-Bool.not_eq_true,ns];exact ex
 rw[this];simp only[Bool.not_false,Bool.and_true];constructor
 ·rintro (a|rfl)
  ·exact a
  exact absurd c ex
 exact .inl
theorem qm.told (h:qm g left ss)(hl:∀k,left k=false)(hp:l'.Perm ss)(hs:l'.Pairwise λa b=>¬b.1.data.toList<a.1.data.toList):fE l' g:=by
 have c:=hp.symm.pairwise h.1 (fun {x y} hxy=>hxy.symm);refine iJ ?_ λf=>?_
 ·have:=hs.and c;refine this.imp fun {a b} ⟨h1,h2⟩=>?_;rcases Classical.em (a.1.data.toList<b.1.data.toList) with h|h
  ·exact h
  exact absurd (fK (List.le_antisymm (List.not_lt.1 h1) (List.not_lt.1 h))) h2
 rw[hp.mem_iff,h.2,hl];simp
theorem qk (w:World)(o:Obj)(a b:Value)(t:TypeId):∀j u,[a,b][j]? =some u->((w.alloc o).alloc (.cells #[a,b] t)).cell? ((⟨w.heap.size+1,0,none⟩:Addr).add j)=some u:=by
 have:=cell_two_new (w.alloc o) a b t;simpa using this
def Cr (e:Ending)(w w':World)(g:ByteArray->ByteArray)(n:Nat):Prop:=
 ∃(l:List Fl) (b cap:Nat),e=.returned (.slice (some ⟨b,0,none⟩) l.length cap)/\fE l g/\l.length<=n/\w'.ownsRow w.heap.size 80 2 (.slice (some ⟨b,0,none⟩) l.length cap) l.length (l.flatMap cF)
theorem rB (b n:Nat)(D:DataW Unit)(g:ByteArray->ByteArray)(w:World)(hown:w.ownsMap prog 9 bK b n D)(hM:cX D g)(hn:n*32<=140737488355328):
 c_ 144 #[.map (some b)] w λe w'=>Cr e w w' g n/\Bl w w':=by
 obtain⟨R,N,C,E,F⟩:=info_parts tH;have I:=hown.lt;have X:=hown.size_le;go_enter func144,ntmps144
 go_wp2_with (first
  |(at_len;refine wpList_len_own _ rfl _ _ rfl _ _ fH _ b n _ rfl hown ?_)
  |(at_make;refine wpList_make_own _ rfl _ _ _ rfl w.heap.size _ R _ 2 underlying24 N C E _ _ _ (Maps.size D) rfl rfl rfl (by rw[F];omega) (by unfold maxLen;omega) (b_ _) ?_;intro w1 hrow1 hg1)
  |(at_range;refine wpList_range_own _ rfl _ _ rfl _ _ vY fH _ b n _ rfl (hown.kept hg1 (by simp)) ?_;intro w0 hrg0 hg0 hs0))
 go_frame
 go_loopw [3] (λv wr=>∃(i:Lit->Bool) (m:Nat) (t:List Fl),wr.ranges prog 9 bK b w1.heap.size n D i m/\t.length+m<=Maps.size D/\
  wr.ownsRow w.heap.size 80 2 v t.length (t.flatMap cF)/\v≠Zn/\qm g i t/\Bl w wr)
  (λ_ wr=>wr.rangeLeft b w1.heap.size)
 case atStart=>
  exact⟨_,_,[],hrg0,by simp,hrow1.kept hg0 (Or.inr (by simp[Value.ownBlock])),by simp,qm.start hM,
   ((n_ _ _).grown hg1 (b_ _) (λj hj=>by cases hj)).grown hg0 hg1.size (λj hj=>by cases hj)⟩
 obtain⟨i,m,t,q,V,d,A,G,h⟩:=hrel;go_wp2_with (at_next;refine wpList_next_ranges _ rfl _ rfl _ vY bK Value.string (λf:Fl=>.agg #[.string f.1,.string f.2]) (λkey kl hk=>by obtain⟨x,B,_⟩:=nj hk;exact⟨x,B⟩) (λv y hv=>by obtain⟨p,c,B,_⟩:=ii hv;exact⟨(p,c),B⟩) b w1.heap.size n _ _ _ rfl q ?_ ?_)
 ·intro hc0 hl0;rcases d.2 with ⟨z,_⟩|⟨M,u,S,rfl,o,hb,h1,h2,h3,T⟩
  ·exact absurd z A
  have U:=yB t M u w.heap.size wr d (by omega);clear d A T;go_wp2_with (go_at_call 185;refine U.mono ?_;rintro e w' ⟨rfl,⟨Z,O,W,r⟩,J⟩);go_ret;have K:=O.length_eq;exact⟨⟨Z,M,u,by rw[K];rfl,G.told hl0 O W,by omega,r⟩,h.grown J h.size (λj hj=>by cases hj;exact o)⟩
 intro x p c k yd yp w2 cnt2 hkey hlk hv hat hrg2 hlt hg2 hs2 hen;obtain⟨s,B,rfl⟩:=nj hkey;cases B
 have Y:=congrArg Prod.fst (Option.some.inj ((lE p c).symm.trans hv));subst Y;obtain⟨H,_⟩:=G.step hM hlk (f:=(p,c)) hat;have a:=d.kept hg2 (Or.inr (row_ne_iter d q).symm);have Q:=hg2.size;have P:=h.size;clear hs2 hv hkey G hat;go_wp2_with (at_builtin;refine wpList_append_own _ rfl _ _ _ rfl w.heap.size _ R _ 2 32 underlying24 N C E F rfl (by decide) _ _ _ rfl ((a.alloc _).alloc _) ⟨w2.heap.size+1,0,none⟩ 1 1 [.string p,.string c] rfl rfl (qk _ _ _ _ _) (by simp[Value.oneCell']) (by unfold maxLen;omega) (by omega) (by simp;omega) ?_;intro v' w3 hown' hg3 hnil3;go_frame);have l:=((hrg2.alloc (.cells #[.string p,.string c] 80)).alloc (.cells #[.string p,.string c] 80)).kept hg3 (row_ne_low a I) (row_ne_iter a hrg2);refine⟨⟨_,cnt2,t++[(p,c)],l,by simp;omega,by simpa[cF] using hown',λhv'=>by have:=(hnil3.1 hv').2;omega,H,?_⟩,by rw[l.left_eq,q.left_eq];exact hlt⟩;have L:Bl w w2:=h.grown hg2 h.size (λj hj=>by cases hj;exact hg1.size);exact((L.alloc L.size _).alloc (by simp;omega) _).grown hg3 (by simp;omega) (λj hj=>(a.lt j hj).1)
end
variable{xs:List Value}{B base n size:Nat}{e:TypeId}{w w' wr:World}
def lenOf:Value->Nat
 |.slice _ n _=>n
 |_=>0
theorem pc (h:w.ownsRow base e size v n xs):lenOf v=n:=by
 rcases h.2 with ⟨rfl,rfl⟩|⟨g,a,b,rfl,_⟩<;>rfl
theorem de.trans {a b c:World}(h:de a b)(h':de b c):de a c:=by
 obtain⟨n,rfl⟩:=h;obtain⟨m,rfl⟩:=h';exact .two _ _ _
theorem jJ (h:de w w'){b off:Nat}{l:List Fl}(h0:∀i (h:i<l.length),w.cell? ⟨b,off+i*2,none⟩=some (.string l[i].1))(h1:∀i (h:i<l.length),w.cell? ⟨b,off+i*2+1,none⟩=some (.string l[i].2)):
 (∀i (h:i<l.length),w'.cell? ⟨b,off+i*2,none⟩=some (.string l[i].1))/\(∀i (h:i<l.length),w'.cell? ⟨b,off+i*2+1,none⟩=some (.string l[i].2))/\w'.heap.size=w.heap.size:=by
 obtain⟨n,rfl⟩:=h;exact⟨h0,h1,rfl⟩
theorem nz (h:de w w'){base:Nat}{e:TypeId}{size:Nat}{v:Value}{n:Nat}{xs:List Value}(hr:w.ownsRow base e size v n xs):w'.ownsRow base e size v n xs:=by
 obtain⟨n,rfl⟩:=h;exact hr
theorem eI {a:World}(h:de w w')(hb:Below B a w):Below B a w':=by
 obtain⟨n,rfl⟩:=h;exact hb.trans ⟨rfl,rfl,rfl,b_ _,λ_ _=>rfl⟩
theorem rL (ss:List Fl):ss=[]\/∃L last,ss=L++[last]:=by
 rcases List.eq_nil_or_concat ss with h|⟨L,b,h⟩
 ·exact .inl h
 exact .inr ⟨L,b,by rw[h,List.concat_eq_append]⟩
theorem kZ (a b:ByteArray)(w:World)(ha:a.size<=maxLen){r:Bool}(hr:ltB a b=r):
 c_ 125 #[.string a,.string b] w λe w'=>e=.returned (.bool r)/\de w w':=by
 rw[<-hr];exact kL a b w ha
theorem ku {f:Fl}(hn:n=ss.length)(h:w.ownsRow base e 2 v (n+1) (ss.flatMap cF++[.string f.1,.string f.2])):w.ownsRow base e 2 v (ss++[f]).length ((ss++[f]).flatMap cF):=by
 subst hn;have a:(ss++[f]).length=ss.length+1:=by simp
 have b:(ss++[f]).flatMap cF=ss.flatMap cF++[.string f.1,.string f.2]:=by simp[cF]
 rw[a,b];exact h
theorem yU {a:Nat}(h:a+1<n)(hn:(n+1)*32<=140737488355328):a+1+1<=maxLen:=by unfold maxLen;omega
theorem tQ {a:Nat}(h:a+1<n)(hn:(n+1)*32<=140737488355328):(a+1+1)*32<=140737488355328:=
 e_ (u_ 32 (by omega)) hn
theorem kY (h:w.heap.size<=wr.heap.size)(o:Obj):w.heap.size<=(wr.alloc o).heap.size:=by simp;omega
theorem yT (l:List Fl)(b off cap:Nat)(w:World)(hlt:b<w.heap.size)(hn:(l.length+1)*32<=140737488355328)(h0:∀i (h:i<l.length),w.cell? ⟨b,off+i*2,none⟩=some (.string l[i].1))(h1:∀i (h:i<l.length),w.cell? ⟨b,off+i*2+1,none⟩=some (.string l[i].2))(ha:dr Prod.fst l)(hsz:∀f∈l,f.1.size<=maxLen):
 c_ 83 #[s_ b off l.length cap] w λe w'=>(∃(ss:List Fl) (v:Value),e=.returned v/\fi ss/\ss.Perm l/\w'.ownsRow w.heap.size 80 2 v ss.length (ss.flatMap cF))/\Bl w w':=by
 obtain⟨i0,hi,T,U,V⟩:=info_parts tH;go_enter func83,ntmps83;go_wp2;go_loopw [3] (λv wr=>∃(ss:List Fl),wr.ownsRow w.heap.size 80 2 v ss.length (ss.flatMap cF)/\ir l ss/\Bl w wr) (λv _=>l.length-lenOf v)
 case atStart=>exact⟨[],B_ _ _ _ _,wK l,n_ _ _⟩
 obtain⟨ss,r,p,Y⟩:=hrel;obtain⟨Z,ab⟩:∃x,x=wr:=⟨wr,rfl⟩;subst ab;obtain⟨W,X,gb⟩:=eY Y hlt h0 h1;have P:=CB p
 have hv:∃a c,u3=.slice a ss.length c:=by
  rcases r.2 with ⟨h,h'⟩|⟨g,cap,ae,h,_⟩
  ·exact⟨_,_,by rw[h,h']⟩
  exact⟨_,_,h⟩
 clear h0 h1;by_cases hlk:ss.length<l.length
 ·rcases rL ss with rfl|⟨L,m,rfl⟩
  ·have C:=hd p;have u:=r;obtain⟨a,c,rfl⟩:=hv;clear p r P;simp only[List.length_nil] at hlk;go_wp2;go_loopw [4,5] (λbv i wr'=>∃k:Nat,k<=l.length/\i=I k/\Hid (de Z wr')/\Hid (Bst l ([]) k bv)) (λ_ i _=>l.length-(intOf i).toNat)
   case atStart=>exact⟨0,k_ _,rfl,de.refl _,pb l _⟩
   obtain⟨k,hk,rfl,o,d⟩:=hrel;obtain⟨f0,f1,fs⟩:=jJ o.out W X;clear W X fs;by_cases hkl:k<l.length
   ·rcases d.out with ⟨rfl,E⟩|⟨q,rfl,H,B,D,z⟩
    ·have Hn:=hd (pa E hkl (qp _));clear E d;go_wp2;exact⟨⟨k+1,hkl,by go_num,o,Hn⟩,by simp[intOf];omega⟩
    have H1:Hid (ltB l[k].1 l[q].1=true->Bst l [] (k+1) (I k)):=λh=>rK B z hkl (qp _) (of_decide_eq_true h);have H2:Hid (ltB l[k].1 l[q].1=false->Bst l [] (k+1) (I q)):=λh=>rJ H B D z hkl (of_decide_eq_false h);have J:=hsz _ (i_ hkl);clear D z d;go_wp2;go_quiet ((go_at_call 125;exact Calls.quiet_of (kL _ _ _ J)));go_wp2
    ·exact⟨⟨k+1,hkl,by go_num,o.out.trans (.one _ _),H1.out ‹_›⟩,by simp[intOf];omega⟩
    exact⟨⟨k+1,hkl,by go_num,o.out.trans (.one _ _),H2.out (by first|assumption|simpa using ‹¬ltB l[k].1 l[q].1=true›)⟩,by simp[intOf];omega⟩
   obtain⟨q,rfl,B,t⟩:=vz d.out hkl C.out hlk ha;have y:=hd t;have A:=eI o.out Y;have s:=nz o.out u;have S:=A.size;clear t d;go_wp2_with (at_builtin;go_must (refine wpList_append_own _ rfl _ _ _ rfl w.heap.size _ i0 _ 2 32 underlying24 hi T U V rfl (by decide) _ _ _ rfl (s.alloc (.cells #[.string l[q].1,.string l[q].2] 80)) ⟨wr.heap.size,0,none⟩ 1 1 [.string l[q].1,.string l[q].2] rfl rfl (cell_two_new wr _ _ _) (by simp[Value.oneCell']) (by first|(unfold maxLen;omega)|(simp[maxLen];done)|(simp[maxLen];omega)) (by first|omega|(simp;done)|(simp;omega)) (by first|omega|(simp;done)|(simp;omega)) ?_);intro v' w3 hown' hg3 hnil3;go_frame);have K:=pc hown';refine⟨⟨[]++[l[q]],ku (by simp) hown',y.out,?_⟩,?_⟩
   ·exact(A.alloc A.size _).grown hg3 (by simp;omega) (λj hj=>(s.lt j hj).1)
   rw[K];show _<l.length-0;omega
  have C:=hd p;have u:=r;have aa:=hd hlk;have G:L.length+1<l.length:=by simpa using hlk
  have N:Hid (∀f,Beh (L++[m]) f↔m.1.data.toList<f.1.data.toList):=λf=>by
   have:=yO p.1 (by simp) f;simpa using this
  have M:m.1.size<=maxLen:=by
   obtain⟨_,ad,hp,_⟩:=p;exact hsz _ (hp.mem_iff.2 (by simp))
  clear hv;have Q:(L++[m]).length=L.length+1:=by simp
  rcases ay.of_row r with ⟨h,_⟩|⟨g,og,cg,R,af,r0,_⟩
  ·simp at h
  rw[Q] at R u;clear r;subst R
  have rl:Z.cell? ⟨g,og+L.length*2,none⟩=some (.string m.1):=by
   have:=r0 L.length (by simp);simpa using this
  clear p P r0 hlk Q;go_wp2;go_loopw [4,5] (λbv i wr'=>∃k:Nat,k<=l.length/\i=I k/\Hid (de Z wr')/\Hid (Bst l (L++[m]) k bv)) (λ_ i _=>l.length-(intOf i).toNat)
  case atStart=>exact⟨0,k_ _,rfl,de.refl _,pb l _⟩
  obtain⟨k,hk,rfl,o,d⟩:=hrel;obtain⟨f0,f1,fs⟩:=jJ o.out W X
  have ac:wr.cell? ⟨g,og+L.length*2,none⟩=some (.string m.1):=by
   obtain⟨n,h⟩:=o.out;rw[h];exact rl
  clear W X fs rl;by_cases hkl:k<l.length
  ·have J:=hsz _ (i_ hkl);cases hbt:ltB m.1 l[k].1
   ·have Hs:=yS d.out hkl (λh=>by have:=(N.out _).1 h;exact absurd this (of_decide_eq_false hbt));have HS:=hd Hs;clear Hs d;go_wp2;go_quiet ((go_at_call 125;exact Calls.quiet_of (kZ _ _ _ M hbt)));go_wp2;exact⟨⟨k+1,hkl,by go_num,o.out.trans (.one _ _),HS⟩,by simp[intOf];omega⟩
   have F:=(N.out l[k]).2 (of_decide_eq_true hbt);rcases d.out with ⟨rfl,E⟩|⟨q,rfl,H,B,D,z⟩
   ·have Hn:=hd (pa E hkl F);clear E d F;go_wp2;go_quiet ((go_at_call 125;exact Calls.quiet_of (kZ _ _ _ M hbt)));go_wp2;exact⟨⟨k+1,hkl,by go_num,o.out.trans (.one _ _),Hn⟩,by simp[intOf];omega⟩
   have H1:Hid (ltB l[k].1 l[q].1=true->Bst l (L++[m]) (k+1) (I k)):=λh=>rK B z hkl F (of_decide_eq_true h);have H2:Hid (ltB l[k].1 l[q].1=false->Bst l (L++[m]) (k+1) (I q)):=λh=>rJ H B D z hkl (of_decide_eq_false h);clear D z d F;go_wp2;go_quiet ((go_at_call 125;exact Calls.quiet_of (kZ _ _ _ M hbt)));generalize hW:wr.drewN nq=wx;have O:Hid (de Z wx):=by rw[<-hW];exact o.out.trans (.one _ _)
   obtain⟨e0,e1,es⟩:=jJ (w:=wr) (w':=wx) (by rw[<-hW];exact .one _ _) f0 f1;clear hW f0 f1 ac o es;go_wp2;go_quiet ((go_at_call 125;exact Calls.quiet_of (kL _ _ _ J)));go_wp2
   ·exact⟨⟨k+1,hkl,by go_num,O.out.trans (.one _ _),H1.out ‹_›⟩,by simp[intOf];omega⟩
   exact⟨⟨k+1,hkl,by go_num,O.out.trans (.one _ _),H2.out (by first|assumption|simpa using ‹¬ltB l[k].1 l[q].1=true›)⟩,by simp[intOf];omega⟩
  obtain⟨q,rfl,B,t⟩:=vz d.out hkl C.out aa.out ha;have y:=hd t;have A:=eI o.out Y;have s:=nz o.out u;have S:=A.size;clear t d;have q1:=hd (yU G hn);have q2:=hd (tQ G hn);have q3:Hid (w.heap.size<=(wr.alloc (.cells #[.string l[q].1,.string l[q].2] 80)).heap.size):=kY S _;go_wp2_with (at_builtin;go_must (refine wpList_append_own _ rfl _ _ _ rfl w.heap.size _ i0 _ 2 32 underlying24 hi T U V rfl (by decide) _ _ _ rfl (s.alloc (.cells #[.string l[q].1,.string l[q].2] 80)) ⟨wr.heap.size,0,none⟩ 1 1 [.string l[q].1,.string l[q].2] rfl rfl (cell_two_new wr _ _ _) (by simp[Value.oneCell']) q1.out q2.out q3.out ?_);intro v' w3 hown' hg3 hnil3;go_frame);have K:=pc hown';refine⟨⟨(L++[m])++[l[q]],ku (by simp) hown',y.out,?_⟩,?_⟩
  ·exact(A.alloc A.size _).grown hg3 (by simp;omega) (λj hj=>(s.lt j hj).1)
  rw[K];show _<l.length-(L.length+1);omega
 obtain⟨a,c,rfl⟩:=hv;have Hp:=hd (Bb p hlk);have hr:=p.1;go_wp2;go_ret;exact⟨⟨ss,_,rfl,hr,Hp.out,r⟩,Y⟩
variable{a:Act}{ops:Array Oper}{o:Obj}{P:Program}{E:Prop}{w3 wo:World}
def but (p:ByteArray)(l:List Fl):List Fl:=l.filter λf=> !(f.1.toList==p.toList)
theorem lV {o:Oper}{K:Act->World->Prop}{Q:Exit->Act->World->Prop}(hg:o.guard=none)(s x:Operand)(t:TypeId)(ho:o.op=Op.call {callee:=Callee.builtin Builtin.append,args:=#[s,x],argTypes:=#[t,t]})(base:Nat)(e:TypeId)(i:TypeInfo)(z:Value)(size bytes:Nat)(ht:P.underlying t=some (.slice e))(hi:P.info? e=some i)(hz:i.zero=some z)(hsize:i.size=size)(hby:i.bytes=bytes)(hzs:z.cells.size=size)(hsz:0<size)(v:Value)(n:Nat)(xs:List Value)(hs:a.eval s=v)(hown:w.ownsRow base e size v n xs)(ad:Addr)(m c:Nat)(aQ:List Value)(hx:a.eval x=.slice (some ad) m c)(hl:aQ.length=m*size)(hnews:∀j u,aQ[j]? =some u->w.cell? (ad.add j)=some u)(h1:∀u∈aQ,u.oneCell'=true)(h63:n+m<=maxLen)(hbytes:(n+m)*bytes<=140737488355328)(hbase:base<=w.heap.size)(hK:∀v' w',w'.ownsRow base e size v' (n+m) (xs++aQ)->w.grownBy w' v.ownBlock->K (a.put o.dst v') w'):
 if Region.wanted o (yielded ops a.tmps)=true then Oper.wp P o a w K Q else E:=by
 have b:Region.wanted o (yielded ops a.tmps)=true:=by simp[Region.wanted,hg]
 rw[if_pos b];exact wp_append_own w s x t ho base e i z size bytes ht hi hz hsize hby hzs hsz v n xs hs hown ad m c aQ hx hl hnews h1 h63 hbytes hbase λv' w' h2 h3 _=>hK v' w' h2 h3
theorem wL {nq:Nat}(hb:Bl wo wr)(hrow:wr.ownsRow wo.heap.size e size v n xs)(hg:((wr.alloc o).drewN nq).grownBy w3 v.ownBlock):Bl wo w3:=
 (eI (.one _ nq) (hb.alloc hb.size o)).grown hg (by show wo.heap.size<=(wr.alloc o).heap.size;have:=hb.size;simp;omega) (λj hj=>(hrow.lt j hj).1)
theorem wM {o1 o2:Nat}{u1 u2:Value}(hlt:b<wo.heap.size)(hrow:wr.ownsRow wo.heap.size e size v n xs)(hg:(wr.alloc o).drew.grownBy w3 v.ownBlock)(h1:wr.cell? ⟨b,o1,none⟩=some u1)(h2:wr.cell? ⟨b,o2,none⟩=some u2):w3.cell? ⟨b,o1,none⟩=some u1/\w3.cell? ⟨b,o2,none⟩=some u2:=by
 have a:some b≠v.ownBlock:=λh=>by have:=(hrow.lt b h.symm).1;omega
 have g:=v_ wr o none;have c:=g.cell h1 (by simp);have d:=g.cell h2 (by simp);exact⟨hg.cell c a,hg.cell d a⟩
def Bc (l:List Fl):Prop:=∀f∈l,f.2≠⟨#[]⟩
variable{g:ByteArray->ByteArray}{es:List Ed}{l':List Fl}{j m:Nat}
def touch (es:List Ed)(p:ByteArray):Bool:=es.any λe=>e.1.toList==p.toList
theorem tR (es:List Ed)(e:Ed)(p:ByteArray):touch (es++[e]) p=(touch es p||(e.1.toList==p.toList)):=by simp[touch]
theorem pd (es:List Ed)(p:ByteArray):touch es p=true↔∃e∈es,e.1=p:=by
 unfold touch;rw[List.any_eq_true];constructor
 ·rintro⟨e,a,h⟩;exact⟨e,a,(aY _ _).1 h⟩
 rintro⟨e,a,h⟩;exact⟨e,a,(aY _ _).2 h⟩
def keep (es:List Ed)(l:List Fl):List Fl:=l.filter λf=> !touch es f.1
def jL (e:Ed):List Fl:=if e.2.2.toList.isEmpty then [] else [(e.1,e.2.2)]
def aQ (es:List Ed):List Fl:=es.flatMap jL
theorem jg {e:Ed}(h:e.2.2.toList.isEmpty=true):jL e=[]:=by unfold jL;rw[h];rfl
theorem iu {e:Ed}(h:e.2.2.toList.isEmpty=false):jL e=[(e.1,e.2.2)]:=by unfold jL;rw[h];rfl
theorem pe (e:Ed)(es:List Ed):aQ (e::es)=jL e++aQ es:=rfl
theorem jK {e:Ed}{f:Fl}:f∈jL e↔f=(e.1,e.2.2)/\e.2.2≠⟨#[]⟩:=by
 cases h:e.2.2.toList.isEmpty
 ·have a:e.2.2≠⟨#[]⟩:=λx=>by rw[(iY _).2 x] at h;cases h
  rw[iu h,o_];exact⟨λx=>⟨x,a⟩,λx=>x.1⟩
 rw[jg h];exact⟨λx=>by simp at x,λx=>absurd ((iY _).1 h) x.2⟩
theorem yW (hj:j<l.length)(h:touch es l[j].1=false):keep es (l.take (j+1))=keep es (l.take j)++[l[j]]:=by
 unfold keep;rw[g_ hj,List.filter_append,List.filter_cons,if_pos (by rw[h];rfl),List.filter_nil]
theorem wP (hj:j<l.length)(h:touch es l[j].1=true):keep es (l.take (j+1))=keep es (l.take j):=by
 unfold keep;rw[g_ hj,List.filter_append,List.filter_cons,if_neg (by rw[h];exact Bool.false_ne_true),List.filter_nil,T_]
theorem rM (es:List Ed)(l:List Fl):(keep es l).length<=l.length:=List.length_filter_le _ _
theorem yV (hj:j<es.length)(h:es[j].2.2.toList.isEmpty=false):aQ (es.take (j+1))=aQ (es.take j)++[(es[j].1,es[j].2.2)]:=by
 unfold aQ;rw[g_ hj,r_,F_,iu h];rfl
theorem wO (hj:j<es.length)(h:es[j].2.2.toList.isEmpty=true):aQ (es.take (j+1))=aQ (es.take j):=by
 unfold aQ;rw[g_ hj,r_,F_,jg h];exact T_ _
theorem rO (es:List Ed):(aQ es).length<=es.length:=by
 induction es with
 |nil=>simp[aQ]
 |cons e es ih=>
  rw[pe,a_];cases h:e.2.2.toList.isEmpty
  ·rw[iu h];simp;omega
  rw[jg h];simp;omega
theorem fW {f:Fl}:f∈aQ es↔∃e∈es,f=(e.1,e.2.2)/\e.2.2≠⟨#[]⟩:=by
 unfold aQ;rw[List.mem_flatMap];exact⟨λ⟨e,he,h⟩=>⟨e,he,jK.1 h⟩,λ⟨e,he,h⟩=>⟨e,he,jK.2 h⟩⟩
theorem fV {f:Fl}:f∈keep es l↔f∈l/\∀e∈es,e.1≠f.1:=by
 unfold keep;rw[Z_];constructor
 ·rintro⟨b,a⟩;refine⟨b,λe c x=>?_⟩;rw[(pd es f.1).2 ⟨e,c,x⟩] at a;cases a
 rintro⟨b,a⟩;refine⟨b,?_⟩;cases h:touch es f.1
 ·rfl
 obtain⟨e,c,x⟩:=(pd es f.1).1 h;exact absurd x (a e c)
theorem tS (h:dr Prod.fst es):dr Prod.fst (aQ es):=by
 induction es with
 |nil=>exact List.Pairwise.nil
 |cons e es ih=>
  have b:=List.pairwise_cons.1 h;rw[pe];refine List.pairwise_append.2 ⟨?_,ih b.2,λx hx y hy=>?_⟩
  ·cases h:e.2.2.toList.isEmpty
   ·rw[iu h];exact List.pairwise_singleton _ _
   rw[jg h];exact List.Pairwise.nil
  obtain⟨c,a,rfl,_⟩:=fW.1 hy;rw[(jK.1 hx).1];exact b.1 c a
theorem Bd (ha:dr Prod.fst l)(hf:Bc l)(he:dr Prod.fst es):
 dr Prod.fst (keep es l++aQ es)/\Bc (keep es l++aQ es)/\∀q,aF (keep es l++aQ es) q=ck (aF l) es q:=by
 have b:dr Prod.fst (keep es l++aQ es):=by
  refine List.pairwise_append.2 ⟨List.Pairwise.sublist List.filter_sublist ha,tS he,λx hx y hy=>?_⟩;obtain⟨e,a,rfl,_⟩:=fW.1 hy;exact((fV.1 hx).2 e a).symm
 have j:Bc (keep es l++aQ es):=λf hf'=>by
  rcases E_.1 hf' with h|h
  ·exact hf f (fV.1 h).1
  obtain⟨e,_,rfl,i⟩:=fW.1 h;exact i
 refine⟨b,j,λq=>?_⟩;by_cases hin:∃e∈es,e.1=q
 ·obtain⟨e,a,rfl⟩:=hin;rw[gY he a];by_cases i:e.2.2=⟨#[]⟩
  ·rw[i];refine gX λf hf' ef=>?_;rcases E_.1 hf' with h|h
   ·exact(fV.1 h).2 e a ef.symm
   obtain⟨m,d,rfl,k⟩:=fW.1 h;have c:=gY (g:=aF l) he d;have n:=gY (g:=aF l) he a;rw[show m.1=e.1 from ef,n,i] at c;exact k c.symm
  exact dN b (List.mem_append_right _ (fW.2 ⟨e,a,rfl,i⟩))
 rw[gV λe a ee=>hin ⟨e,a,ee⟩];by_cases hs:aF l q=⟨#[]⟩
 ·rw[hs];refine gX λf hf' ef=>?_;rcases E_.1 hf' with h|h
  ·have c:=dN ha (fV.1 h).1;rw[ef,hs] at c;exact hf f (fV.1 h).1 c.symm
  obtain⟨e,a,rfl,_⟩:=fW.1 h;exact hin ⟨e,a,ef⟩
 exact dN b (List.mem_append_left _ (fV.2 ⟨gp hs,λe a ee=>hin ⟨e,a,ee⟩⟩))
theorem qq {o:List Fl}(hr:fi l')(hp:l'.Perm o)(hf:Bc o)(ha:dr Prod.fst o)(hg:∀q,aF o q=g q):fE l' g:=by
 refine iJ hr λf=>?_;rw[hp.mem_iff,dU ha hf,hg]
theorem qt (h:n+1<=m)(hm:m*32<=140737488355328):(n+1)*32<=140737488355328:=e_ (u_ 32 h) hm
theorem rP (h:n+1<=m)(hm:m*32<=140737488355328):n+1<=maxLen:=by unfold maxLen;omega
theorem wN (a:Option Addr)(cap:Nat)(w:World):
 c_ 83 #[.slice a 0 cap] w λe w'=>e=.returned (Zn)/\w'=w:=by
 go_enter func83,ntmps83;go_wp2;go_loop [3] (λv=>v=Zn) (λ_=>0)
 case atStart=>rfl
 subst hrel;go_wp2;go_ret;exact⟨rfl,rfl⟩
theorem rN (l:List Fl)(v:Value)(w:World)(hl:ay w v l)(hn:(l.length+1)*32<=140737488355328)(ha:dr Prod.fst l)(hsz:∀f∈l,f.1.size<=maxLen):
 c_ 83 #[v] w λe w'=>(∃(ss:List Fl) (v:Value),e=.returned v/\fi ss/\ss.Perm l/\w'.ownsRow w.heap.size 80 2 v ss.length (ss.flatMap cF))/\Bl w w':=by
 rcases hl with ⟨rfl,a,c,rfl⟩|⟨b,g,c,rfl,d,h,i⟩
 ·refine(wN a c w).mono ?_;rintro e w' ⟨rfl,rfl⟩;exact⟨⟨[],_,rfl,List.Pairwise.nil,.refl _,B_ _ _ _ _⟩,n_ _ _⟩
 exact yT l b g c w d hn h i ha hsz
def DX (e:Ending)(w':World)(l:List Fl)(es:List Ed):Prop:=
 ((∀x∈es,aF l x.1=x.2.1)/\∃(l':List Fl) (v:Value),e=.returned (.tuple #[v,.bool true])/\fE l' (ck (aF l) es)/\ay w' v l'/\l'.length<=l.length+4/\∃b,w'.ownsRow b 80 2 v l'.length (l'.flatMap cF))\/
 ((¬∀x∈es,aF l x.1=x.2.1)/\e=.returned (.tuple #[Zn,.bool false]))
theorem kw (l:List Fl)(es:List Ed)(a:Option Addr)(b off cap be oe ce:Nat)(w:World)(ha:Hid (0<l.length->a=some ⟨b,off,none⟩/\b<w.heap.size))(hfa:ay w (.slice a l.length cap) l)(hbe:be<w.heap.size)(h0:∀i (h:i<l.length),w.cell? ⟨b,off+i*2,none⟩=some (.string l[i].1))(h1:∀i (h:i<l.length),w.cell? ⟨b,off+i*2+1,none⟩=some (.string l[i].2))(e0:∀i (h:i<es.length),w.cell? ⟨be,oe+i*3,none⟩=some (.string es[i].1))(e1:∀i (h:i<es.length),w.cell? ⟨be,oe+i*3+1,none⟩=some (.string es[i].2.1))(e2:∀i (h:i<es.length),w.cell? ⟨be,oe+i*3+2,none⟩=some (.string es[i].2.2))(hn:Hid ((l.length+100)*32<=140737488355328))(hln:l.length<8796093022208)(hm:es.length<=4)(hg:Hid (cB dy Prod.fst l))(hge:Hid (cB iI Prod.fst es)):
 c_ 247 #[.slice a l.length cap,s_ be oe es.length ce] w λe w'=>DX e w' l es/\Bl w w':=by
 obtain⟨i0,hi,O,P,Q⟩:=info_parts tH;go_enter func247,ntmps247;go_wp2;go_loopw [6] (λiv wr=>∃k:Nat,k<=es.length/\iv=I k/\Hid (de w wr)/\Hid (∀j (_:j<k) (h':j<es.length),aF l es[j].1=es[j].2.1)) (λiv _=>es.length-(intOf iv).toNat)
 case atStart=>exact⟨0,k_ _,rfl,de.refl _,λj h=>by omega⟩
 obtain⟨k,hk,rfl,u,q⟩:=hrel;by_cases hlk:k<es.length
 ·obtain⟨T,U,V,fb⟩:=ct u.out.below hbe e0 e1 e2
  have ab:∀n,c_ 267 #[.slice a l.length cap,.string es[k].1] (wr.drewN n) λe w''=>e=.returned (.string (aF l es[k].1))/\w''=wr.drewN n:=λn=>
   tg l es[k].1 _ (wr.drewN n) (hfa.later (eI (.one _ _) u.out.below)) (by omega)
  have H1:Hid ((!((aF l es[k].1).toList==es[k].2.1.toList))=true->¬∀x∈es,aF l x.1=x.2.1):=λh H=>by
   rw[H _ (i_ hlk)] at h;simp at h
  have H2:Hid ((!((aF l es[k].1).toList==es[k].2.1.toList))=false->aF l es[k].1=es[k].2.1):=λh=>(aY _ _).1 (by simpa using h);clear h0 h1 e0 e1 e2 hfa ha;go_wp2;go_quiet ((go_at_call 267;exact Calls.quiet_of_same (ab _)));go_wp2
  ·go_ret2;exact⟨.inr ⟨H1.out ‹_›,rfl⟩,eI (.one _ _) u.out.below⟩
  exact⟨⟨k+1,hlk,by go_num,u.out.trans (.one _ _),λx H hx'=>by
   by_cases e:x=k
   ·subst e;exact H2.out ‹_›
   exact q.out x (by omega) hx'⟩,by simp[intOf];omega⟩
 have J:Hid (∀x∈es,aF l x.1=x.2.1):=λx H=>by
  obtain⟨j,hj,rfl⟩:=Q_.1 H;exact q.out j (by omega) hj
 obtain⟨y,ad⟩:∃x,x=wr:=⟨wr,rfl⟩;subst ad;have A:=u.out.below;obtain⟨e0,e1,e2,hbe⟩:=ct A hbe e0 e1 e2
 have E:Hid (0<l.length->a=some ⟨b,off,none⟩/\(∀i (h:i<l.length),y.cell? ⟨b,off+i*2,none⟩=some (.string l[i].1))/\(∀i (h:i<l.length),y.cell? ⟨b,off+i*2+1,none⟩=some (.string l[i].2))/\b<y.heap.size):=λh=>
  ⟨(ha.out h).1,eY A (ha.out h).2 h0 h1⟩
 clear h0 h1 q hfa ha;go_wp2;go_loopw [7,8] (λov iv wr=>∃i:Nat,i<=l.length/\iv=I i/\wr.ownsRow y.heap.size 80 2 ov (keep es (l.take i)).length ((keep es (l.take i)).flatMap cF)/\Bl y wr) (λ_ iv _=>l.length-(intOf iv).toNat)
 case atStart=>exact⟨0,k_ _,rfl,B_ _ _ _ _,n_ _ _⟩
 obtain⟨i,ae,rfl,c,r⟩:=hrel;obtain⟨w1,ac⟩:∃x,x=wr:=⟨wr,rfl⟩;subst ac;by_cases hli:i<l.length
 ·obtain⟨rfl,W,X,gb⟩:=E.out (by omega);obtain⟨W,X,gb⟩:=eY r gb W X;obtain⟨d0,d1,d2,db⟩:=ct r hbe e0 e1 e2;clear e0 e1 e2 E;go_wp2;go_loopw [9,10] (λtv kv wr'=>∃(k:Nat) (t:Bool),k<=es.length/\kv=I k/\tv=.bool t/\Hid (t=touch (es.take k) l[i].1)/\Hid (de w1 wr')) (λ_ kv _=>es.length-(intOf kv).toNat)
  case atStart=>exact⟨0,false,k_ _,rfl,rfl,rfl,de.refl _⟩
  obtain⟨k,t,hk,rfl,rfl,Y,d⟩:=hrel;obtain⟨T,U,V,fb⟩:=ct d.out.below db d0 d1 d2;obtain⟨k0,k1,kb⟩:=eY d.out.below gb W X;clear d0 d1 d2 W X;by_cases hlk:k<es.length
  ·have HT:Hid (touch (es.take (k+1)) l[i].1=(touch (es.take k) l[i].1||(es[k].1.toList==l[i].1.toList))):=by
    show _=_;rw[g_ hlk];exact tR _ _ _
   cases t
   ·go_wp2;go_quiet (fail);go_wp2;exact⟨⟨k+1,_,hlk,by go_num,rfl,by show _=_;rw[HT.out,<-Y.out];rfl,d.out.trans (.one _ _)⟩,by simp[intOf];omega⟩
   go_wp2;go_quiet (fail);go_wp2;exact⟨⟨k+1,true,hlk,by go_num,rfl,by show _=_;rw[HT.out,<-Y.out];rfl,d.out.trans (.one _ _)⟩,by simp[intOf];omega⟩
  have e:es.take k=es:=m_ (by omega);have Ht:Hid (t=touch es l[i].1):=by have:=Y.out;rwa [e] at this
  have p:=rM es (l.take i);have v:(l.take i).length<=i:=by rw[l_];omega
  have B:=eI d.out r;have g:=nz d.out c;have G:=B.size;clear e Y;cases t
  ·have z:Hid (keep es (l.take (i+1))=keep es (l.take i)++[l[i]]):=yW hli Ht.out.symm;have R:Hid ((keep es (l.take i)).length+1<=maxLen):=rP (m:=l.length+100) (by omega) hn.out;have S:Hid (((keep es (l.take i)).length+1)*32<=140737488355328):=qt (m:=l.length+100) (by omega) hn.out;have Z:Hid (∀o,y.heap.size<=(wr.alloc o).heap.size):=λo=>kY G o;clear p v;generalize keep es (l.take i)=bl at g R S z;go_wp2_with (at_builtin;go_must (refine wpList_append_own _ rfl _ _ _ rfl y.heap.size _ i0 _ 2 32 underlying24 hi O P Q rfl (by decide) _ _ _ rfl (g.alloc (.cells #[.string l[i].1,.string l[i].2] 80)) ⟨wr.heap.size,0,none⟩ 1 1 [.string l[i].1,.string l[i].2] rfl rfl (cell_two_new wr _ _ _) (by simp[Value.oneCell']) R.out S.out (Z.out _) ?_);intro v' w3 hown' hg3 hnil3;go_frame);exact⟨⟨i+1,hli,by go_num,by rw[z.out];exact ku rfl hown',(B.alloc B.size _).grown hg3 (Z.out _) (λj hj=>(g.lt j hj).1)⟩,by simp[intOf];omega⟩
  have z:Hid (keep es (l.take (i+1))=keep es (l.take i)):=wP hli Ht.out.symm;clear p v;go_wp2;exact⟨⟨i+1,hli,by go_num,by rw[z.out];exact g,B⟩,by simp[intOf];omega⟩
 have e:l.take i=l:=m_ (by omega);rw[e] at c;have p:=rM es l;clear e E;go_wp2;go_loopw [7,11] (λov kv wr'=>∃k:Nat,k<=es.length/\kv=I k/\wr'.ownsRow y.heap.size 80 2 ov (keep es l++aQ (es.take k)).length ((keep es l++aQ (es.take k)).flatMap cF)/\Bl y wr') (λ_ kv _=>es.length-(intOf kv).toNat)
 case atStart=>exact⟨0,k_ _,rfl,by rw[show es.take 0=[] from rfl,show aQ []=[] from rfl,T_];exact c,r⟩
 clear c r;obtain⟨k,hk,rfl,c,r⟩:=hrel;obtain⟨T,U,V,fb⟩:=ct r hbe e0 e1 e2;have G:=r.size;by_cases hlk:k<es.length
 ·have C:=rO (es.take k);have v:(es.take k).length<=k:=by rw[l_];omega
  have s:(keep es l++aQ (es.take k)).length<=l.length+4:=by rw[a_];omega
  clear e0 e1 e2;cases hem:es[k].2.2.toList.isEmpty
  ·have z:Hid (keep es l++aQ (es.take (k+1))=(keep es l++aQ (es.take k))++[(es[k].1,es[k].2.2)]):=by show _=_;rw[yV hlk hem,A_]
   have R:Hid ((keep es l++aQ (es.take k)).length+1<=maxLen):=rP (m:=l.length+100) (by omega) hn.out;have S:Hid (((keep es l++aQ (es.take k)).length+1)*32<=140737488355328):=qt (m:=l.length+100) (by omega) hn.out;have Z:Hid (y.heap.size<=(wr.alloc (.cells #[.string es[k].1,.string es[k].2.2] 80)).heap.size):=kY G _;have c0:=T k hlk;have c2:=V k hlk;clear C v s p U;generalize keep es l++aQ (es.take k)=bl at c R S z;have F:=c.alloc (.cells #[.string es[k].1,.string es[k].2.2] 80);go_wp2;go_region_held_law (λw'=>w'.cell? ⟨be,oe+k*3,none⟩=some (.string es[k].1)/\w'.cell? ⟨be,oe+k*3+2,none⟩=some (.string es[k].2.2)) (go_keep) ((refine lV rfl _ _ _ rfl y.heap.size _ i0 _ 2 32 underlying24 hi O P Q rfl (by decide) u7 _ _ rfl F ⟨wr.heap.size,0,none⟩ 1 1 [.string es[k].1,.string es[k].2.2] rfl rfl (cell_two_new wr _ _ _) (by simp[Value.oneCell']) R.out S.out Z.out ?_;intro v' w3 hown' hg3;obtain⟨m0,m2⟩:=wM hbe c hg3 c0 c2));go_wp2;exact⟨⟨k+1,hlk,by go_num,by rw[z.out];exact ku rfl (by assumption),wL (nq:=1) r c (by assumption)⟩,by simp[intOf];omega⟩
  have z:Hid (keep es l++aQ (es.take (k+1))=keep es l++aQ (es.take k)):=by show _=_;rw[wO hlk hem]
  clear C v s p;go_wp2;exact⟨⟨k+1,hlk,by go_num,by rw[z.out];exact c,r⟩,by simp[intOf];omega⟩
 have e:es.take k=es:=m_ (by omega);rw[e] at c;have C:=rO es;have s:(keep es l++aQ es).length<=l.length+4:=by rw[a_];omega
 obtain⟨o1,o2,o3⟩:=Bd hg.out.2 (λf hf x=>by have:=((dz f).1 (hg.out.1 f hf)).2.1;rw[x] at this;exact absurd this (by decide)) hge.out.2
 have N:∀f∈keep es l++aQ es,f.1.size<=maxLen:=λf hf=>by
  rcases E_.1 hf with h|h
  ·have:=((dz f).1 (hg.out.1 f (fV.1 h).1)).1.2;unfold maxLen;omega
  obtain⟨x,H,rfl,_⟩:=fW.1 h;have:=((iK x).1 (hge.out.1 x H)).1.2;show x.1.size<=maxLen;unfold maxLen;omega
 have hT:=rN (keep es l++aQ es) u7 wr (ay.of_row c) (qt (m:=l.length+100) (by omega) hn.out) o1 N;have HO:Hid (∀D,fi D->D.Perm (keep es l++aQ es)->fE D (ck (aF l) es)/\D.length<=l.length+4):=λD h1 h2=>⟨qq h1 h2 o2 o1 o3,by rw[h2.length_eq];exact s⟩;have hB:Bl w wr:=A.trans (r.mono A.size);clear e C s o1 o2 o3 N c p e0 e1 e2 T U V;generalize keep es l++aQ es=ol at hT HO;go_wp2_with fail;refine hT.mono ?_;rintro e w4 ⟨⟨D,v4,rfl,L,K,M⟩,aa⟩;go_wp2;go_ret2;exact⟨.inl ⟨J.out,D,v4,rfl,(HO.out D L K).1,ay.of_row M,(HO.out D L K).2,_,M⟩,hB.trans (aa.mono hB.size)⟩
theorem rQ (l:List Fl)(es:List Ed)(v v':Value)(w:World)(hl:ay w v l)(he:aH w v' es)(hn:(l.length+100)*32<=140737488355328)(hg:cB dy Prod.fst l)(hok:bT es):
 c_ 247 #[v,v'] w λe w'=>DX e w' l es/\Bl w w':=by
 rcases he with ⟨rfl,_⟩|⟨be,q,m,rfl,d,n,o,p⟩
 ·exact absurd hok.1 (by decide)
 have f:=hl;have g:l.length<8796093022208:=by omega
 rcases hl with ⟨rfl,a,c,rfl⟩|⟨b,k,c,rfl,j,r,s⟩
 ·exact kw [] es a 0 0 c be q m w (λh=>by simp at h) f d (λi h=>by simp at h) (λi h=>by simp at h) n o p hn g hok.2.1 hg hok.2.2
 exact kw l es _ b k c be q m w (λ_=>⟨rfl,j⟩) f d r s n o p hn g hok.2.1 hg hok.2.2
end
end Go.Proofs.YtgamgomepdfgdaaGreat
