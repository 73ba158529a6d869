import Derived.Lib.Walk
import Derived.Lib.BufferWrite
import Derived.Lib.UnsafeStr
import Derived.Laws.MakeOwn
import Derived.Laws.CopyRow
import Derived.BigQuiet
import Derived.Laws.StructEq
import Derived.Deep.QuietTactic
import Derived.Maps.OwnSet
import Derived.Maps.OwnOps
import Derived.Test.YtgamgomepdfgdaaGreatAM03
set_option maxRecDepth 100000
set_option maxHeartbeats 8000000
namespace Go.Proofs.YtgamgomepdfgdaaGreat
open Go.RowKit Go.Proofs.Tryz
theorem vT:(prog.info? 5).map (λi=>(i.zero,i.size,i.bytes))=some (some (.int .u8 0),1,1):=by kernel_rfl
theorem xR (s:ByteArray)(w:World)(hlim:s.size<=281474976710656):
 c_ 175 #[.string s] w λe w'=>e=.returned (.string s)/\Bl w w':=by
 by_cases h0:s.size=0
 ·obtain rfl:s=⟨#[]⟩:=ByteArray.ext (Array.eq_empty_of_size_eq_zero h0);go_enter func175,ntmps175;go_wp2;go_ret;exact⟨rfl,n_ _ _⟩
 obtain⟨v,q,t,b,u⟩:=info_parts vT;have a:(prog.info? 5).map (·.size)=some 1:=by rw[q];simp[b]
 have n:prog.cellsOf 5=1:=by simp[Program.cellsOf,q,b]
 obtain⟨M,f⟩:∃M,M=madeCells (Value.int .u8 0).cells (((s.size:Nat):Int).toNat*v.size):=⟨_,rfl⟩;have y:M.size=s.size:=by rw[f,size_madeCells,b];simp
 have A:∀W:World,(Instr.makeSlice 114 (I (s.size:Int)) (I (s.size:Int))).run prog W=.ok (s_ (W.heap.size) 0 s.size s.size) (W.alloc (.cells M 5)):=λW=>by
  have h:=run_make (P:=prog) W 114 5 v (.int .u8 0) underlying114 q t .i64 .i64 (s.size:Int) (s.size:Int) (by omega) (by omega) (by rw[u];omega) (by omega);rw[<-f] at h;simpa using h
 clear f;have o:=Lib.run_copy_row_string (P:=prog) (w.alloc (.cells M 5)) 114 9 3 5 w.heap.size 0 s.size s.size s M 5 underlying114 a (heap_alloc_new w _) (b_ _) (by omega);obtain⟨Y,i⟩:∃Y,Y=(M.toList.take 0++Lib.byteCells s.data.toList++M.toList.drop (0+s.size)).toArray:=⟨_,rfl⟩;rw[<-i] at o
 have c:Y.toList=Lib.byteCells s.data.toList:=by
  rw[i,List.toList_toArray,List.take_zero,List.nil_append,Y_ (by rw[Array.length_toList];omega),T_]
 have z:Y.size=s.size:=by rw[<-Array.length_toList,c,Lib.byteCells_length,<-Lib.size_eq]
 have d:((w.alloc (.cells M 5)).setRow w.heap.size Y).heap[w.heap.size]? =some (.cells Y 5 (0,0)):=setRow_heap _ _ M _ 5 (0,0) (heap_alloc_new w _);have r:s.data.toList≠[]:=λe=>h0 (by rw[Lib.size_eq,e];rfl)
 have g:=Lib.run_unsafeString_row (P:=prog) ((w.alloc (.cells M 5)).setRow w.heap.size Y) 296 3 9 5 underlying296 n w.heap.size Y.size (by unfold World.shape?;rw[d]) s.data.toList r (by rw[<-Lib.size_eq];omega) (by rw[<-Lib.size_eq];omega)
  (λj x hx=>Lib.cells_of_row d Y.size j _ (by rw[m_ (by rw[Array.length_toList];exact b_ _),c];simp[Lib.byteCells,hx]))
 rw[<-Lib.size_eq] at g;clear i;go_enter func175,ntmps175;go_wp2;go_ret;have l:Bl w (w.alloc (.cells M 5)):=(n_ _ w).alloc (b_ _) _;have m:Below w.heap.size (w.alloc (.cells M 5)) ((w.alloc (.cells M 5)).setRow w.heap.size Y):=⟨rfl,rfl,rfl,by simp,λk hk=>setRow_other _ _ _ _ (by omega)⟩;exact⟨rfl,Lib.below_freeze (l.trans m) (p:=⟨w.heap.size,0,none⟩) (b_ _) _⟩
theorem gG (s:ByteArray)(w:World)(hlim:s.size<=281474976710656):
 c_ 129 #[.string s] w λe w'=>e=.returned (.string s)/\Bl w w':=by
 have b:=xR s w hlim;go_enter func129,ntmps129;go_wp2_with (go_at_call 175;refine b.mono ?_;rintro e w' ⟨rfl,a⟩);go_ret;exact⟨rfl,a⟩
section
variable{N k off:Nat}{P:Program}
theorem oi (w:World)(dT sT ty elem:TypeId)(size:Nat)(g dLen dCap:Nat)(a:Addr)(sLen sCap:Nat)(cur:Array Value)(t:TypeId)(cs:List Value)(hu:P.underlying dT=some (.slice elem))(hs:(P.info? elem).map (·.size)=some size)(hg:w.heap[g]? =some (.cells cur t (0,0)))(hle:sLen<=dLen)(hn:cs.length=sLen*size)(hsrc:∀j v,cs[j]? =some v->w.cell? (a.add j)=some v)(hfit:cs.length<=cur.size)(h1:∀v∈cs,v.oneCell'=true):
 (Builtin.copy_ #[dT,sT] ty #[s_ g 0 dLen dCap,.slice (some a) sLen sCap]).run P w=
  .ok (goInt sLen) (w.setRow g (cs++cur.toList.drop cs.length).toArray):=by
 have e:=run_loadCells_list (P:=P) w a cs hsrc;have c:=run_storeCells_at P g 0 t cs 0 cur w hg (by simpa using hfit) h1;have b:=U_ hle;cases hq:P.info? elem with
 |none=>simp[hq] at hs
 |some i=>
  have d:i.size=size:=by simpa[hq] using hs
  simp[Builtin.copy_,run_underlying hu,Builtin.lenOf,Builtin.firstCells,sizeOf,typeInfo,hq,d,b];rw[<-hn,e];simp at c;simp[c]
theorem mC (w:World)(dT sT ty elem:TypeId)(size:Nat)(d a:Option Addr)(dLen dCap sCap:Nat)(hu:P.underlying dT=some (.slice elem))(hs:(P.info? elem).map (·.size)=some size):
 (Builtin.copy_ #[dT,sT] ty #[.slice d dLen dCap,.slice a 0 sCap]).run P w=.ok (goInt 0) w:=by
 have b:∀a,Sem.run P (loadCells a 0) w=.ok #[] w:=λa=>run_loadCells_list (P:=P) w a [] (by simp);cases hq:P.info? elem with
 |none=>simp[hq] at hs
 |some i=>cases d<;>cases a<;>simp[Builtin.copy_,run_underlying hu,Builtin.lenOf,Builtin.firstCells,sizeOf,typeInfo,hq,storeCells,b]
theorem fF (w:World){ops:Array Oper}{rest:List Oper}{o:Oper}{a:Act}{Q:Exit->Act->World->Prop}(hgd:o.guard=none)(d s:Operand)(dT sT:TypeId)(ho:o.op=.call {callee:=.builtin .copy,args:=#[d,s],argTypes:=#[dT,sT]})(elem:TypeId)(size base:Nat)(hu:P.underlying dT=some (.slice elem))(hs:(P.info? elem).map (·.size)=some size)(g m:Nat)(sp:Option Addr)(n sCap:Nat)(hd:a.eval d=s_ g 0 m m)(hsv:a.eval s=.slice sp n sCap)(hle:n<=m)(xs:List Value)(hown:w.ownsRow base elem size (s_ g 0 m m) m xs)(cs:List Value)(hn:cs.length=n*size)(hsrc:0<n->∃ad,sp=some ad/\∀j v,cs[j]? =some v->w.cell? (ad.add j)=some v)(h1:∀v∈cs,v.oneCell'=true)(h:∀w',w'.ownsRow base elem size (s_ g 0 m m) m (cs++xs.drop cs.length)->w.grownBy w' (some g)->wpList P ops Q rest (a.put o.dst (goInt n)) w'):wpList P ops Q (o::rest) a w:=by
 refine wpList_plain hgd λK hK=>?_;by_cases h0:n=0
 ·subst h0;obtain rfl:cs=[]:=I_ (by simpa using hn);have c:=mC (P:=P) w dT sT o.type elem size (some ⟨g,0,none⟩) sp m m sCap hu hs;unfold Oper.wp;simp[execOp,ho,resolve,invoke,builtin,hd,hsv,c,Result.andThen];exact hK _ _ (h w (by simpa using hown) (World.grownBy.refl _ _))
 obtain⟨ad,rfl,z⟩:=hsrc (by omega);rcases hown.2 with ⟨p,_⟩|⟨C,t,f,B,y,u,A,q,l,r⟩
 ·cases p
 cases B
 have b:cs.length<=f.size:=by rw[hn,l];exact u_ size hle
 have c:=oi (P:=P) w dT sT o.type elem size g m m ad n sCap f elem cs hu hs u hle hn z b h1;unfold Oper.wp;simp[execOp,ho,resolve,invoke,builtin,hd,hsv,c,Result.andThen];have i:f.toList=xs:=by rw[<-r,m_ (by rw[Array.length_toList,l];exact b_ _)]
 rw[i];refine hK _ _ (h _ ⟨?_,.inr ⟨g,m,_,rfl,y,setRow_heap w g f _ elem _ u,b_ _,q,?_,?_⟩⟩ ⟨rfl,rfl,rfl,by simp[World.setRow],λk hk hne=>setRow_other w g k _ (λe=>hne (by rw[e]))⟩)
 ·have x:=hown.1;rw[a_,G_];have:cs.length<=xs.length:=by rw[<-i,Array.length_toList];exact b
  omega
 ·have x:=hown.1;have:cs.length<=xs.length:=by rw[<-i,Array.length_toList];exact b
  simp;omega
 have x:=hown.1;have:cs.length<=xs.length:=by rw[<-i,Array.length_toList];exact b
 rw[m_ (by simp;omega)]
theorem xS {L cs:List Value}(hl:(L.take off).length=off)(hN:off+cs.length<=N):
 (L.take off++cs++L.drop (off+cs.length)).take N=(L.take N).take off++cs++(L.take N).drop (off+cs.length):=by
 rw[A_,A_,List.take_append,List.take_append,hl,m_ (show (L.take off).length<=N by omega),m_ (show cs.length<=N-off by omega),List.take_take,U_ (show off<=N by omega),List.drop_take,Nat.sub_sub]
theorem aZ (w:World){ops:Array Oper}{rest:List Oper}{o:Oper}{a:Act}{Q:Exit->Act->World->Prop}(hgd:o.guard=none)(ty:TypeId)(x y:Operand)(ho:o.op=.store ty x y)(base:Nat)(e:TypeId)(size g n cap off:Nat)(xs:List Value)(hown:w.ownsRow base e size (s_ g 0 n cap) n xs)(hx:a.eval x=.pointer (some ⟨g,off,none⟩))(cs:List Value)(hy:a.eval y=.agg cs.toArray)(hi:(P.info? ty).map (·.size)=some cs.length)(hfit:off+cs.length<=xs.length)(h1:∀v∈cs,v.oneCell'=true)(h:∀w',w'.ownsRow base e size (s_ g 0 n cap) n (xs.take off++cs++xs.drop (off+cs.length))->w.grownBy w' (some g)->wpList P ops Q rest (a.put o.dst undef) w'):wpList P ops Q (o::rest) a w:=by
 rcases hown.2 with ⟨c,_⟩|⟨D,q,b,B,t,r,m,l,u,j⟩
 ·cases c
 cases B
 have p:=hown.1;have C:xs.length<=b.size:=by rw[<-j,l_,Array.length_toList];exact Nat.min_le_right _ _
 have f:=run_storeCells_at (P:=P) g off e cs 0 b w r (by omega) h1
 have d:(storeVar ty ⟨g,off,none⟩ (.agg cs.toArray)).run P w=.ok () (w.setRow g (b.toList.take off++cs++b.toList.drop (off+cs.length)).toArray):=by
  cases hq:P.info? ty with
  |none=>simp[hq] at hi
  |some i=>
   have A:i.size=cs.length:=by simpa[hq] using hi
   simp only[Nat.add_zero] at f;simp[storeVar,sizeOf,typeInfo,hq,A,Value.cells,f]
 refine wpList_plain hgd λ_ hK=>?_;unfold Oper.wp execOp;simp only[ho,hx,hy,Instr.storeAt,Instr.sureAddr,Sem.run_bind,Sem.run_pure,Result.andThen_ok,d];refine hK _ _ (h _ ⟨?_,.inr ⟨g,cap,_,rfl,t,setRow_heap w g b _ e _ r,m,l,?_,?_⟩⟩ ⟨rfl,rfl,rfl,by simp[World.setRow],λk hk hne=>setRow_other w g k _ (λe=>hne (by rw[e]))⟩)
 ·simp;omega
 ·simp;omega
 have s:off+cs.length<=n*size:=by rw[p] at hfit;exact hfit
 have z:(b.toList.take off).length=off:=by rw[l_,Array.length_toList];omega
 rw[<-j];exact xS z s
theorem mD {A T cs:List Value}(hA:A.length=k)(hT:T.length=cs.length+cs.length):
 ((A++T).take k++cs++(A++T).drop (k+cs.length)).take (k+cs.length)++cs++((A++T).take k++cs++(A++T).drop (k+cs.length)).drop (k+cs.length+cs.length)=A++(cs++cs):=by
 subst hA
 have e:(A++T).take A.length++cs++(A++T).drop (A.length+cs.length)=A++(cs++T.drop cs.length):=by
  rw[List.take_left,List.drop_append,Nat.add_sub_cancel_left,Y_ (by omega),List.nil_append,A_]
 rw[e,List.take_append,Nat.add_sub_cancel_left,m_ (show A.length<=_ by omega),List.take_left,J_,List.drop_append,Nat.add_sub_cancel_left,Y_ (show A.length<=_ by omega),List.nil_append,List.drop_append,Nat.add_sub_cancel_left,Y_ (show cs.length<=_ by omega),List.nil_append,List.drop_drop,Y_ (show T.length<=_ by omega),T_,A_]
variable{α:Type}
theorem vf {a b:ByteArray}(h:a=b):Ending.returned (.string a)=.returned (.string b):=by rw[h]
theorem vU (l:List α)(k:Nat)(h:k<l.length):l.drop k=l[k]::l.drop (k+1):=M_ h
theorem tg (l:List Fl)(q:ByteArray)(v:Value)(w:World)(hl:ay w v l)(hn:l.length<8796093022208):
 c_ 267 #[v,.string q] w λe w'=>e=.returned (.string (aF l q))/\w'=w:=by
 rcases hl with ⟨rfl,a,d,rfl⟩|⟨b,m,d,rfl,c,n,o⟩
 ·go_enter func267,ntmps267;go_wp2;go_loop [5] (λi=>i=I 0) (λ_=>0)
  case atStart=>rfl
  subst hrel;go_wp2;go_ret;exact⟨rfl,rfl⟩
 go_enter func267,ntmps267;go_wp2;go_loop [5] (λi=>∃k:Nat,k<=l.length/\i=I k/\Hid (aF l q=aF (l.drop k) q)) (λi=>l.length-(intOf i).toNat)
 case atStart=>exact⟨0,k_ _,rfl,rfl⟩
 obtain⟨k,p,rfl,f⟩:=hrel;by_cases c:k<l.length
 ·have hd:=vU l k c;have g:Hid ((l[k].1.toList==q.toList)=true->aF l q=l[k].2):=λh=>by rw[f.out,hd];exact eQ _ _ _ h
  have j:Hid ((l[k].1.toList==q.toList)=false->aF l q=aF (l.drop (k+1)) q):=λh=>by rw[f.out,hd];exact dp _ _ _ h
  clear hd;go_wp2
  ·go_ret;exact⟨vf (g.out ‹_›).symm,rfl⟩
  exact⟨⟨k+1,c,by go_num,j.out ‹_›⟩,by simp[intOf];omega⟩
 go_wp2;go_ret;exact⟨vf (by rw[f.out,Y_ (by omega)];rfl),rfl⟩
def neF (p b q c:ByteArray):Bool:= !((p.toList==q.toList)&&(b.toList==c.toList))
def neE (p o n q r m:ByteArray):Bool:= !((p.toList==q.toList)&&(o.toList==r.toList)&&(n.toList==m.toList))
theorem uZ (f g:Fl):neF f.1 f.2 g.1 g.2=false↔f=g:=by
 unfold neF;rw[Bool.not_eq_false',Bool.and_eq_true,aY,aY];exact⟨λh=>Prod.ext h.1 h.2,λh=>by rw[h];exact⟨rfl,rfl⟩⟩
theorem ve (f g:Ed):neE f.1 f.2.1 f.2.2 g.1 g.2.1 g.2.2=false↔f=g:=by
 unfold neE;rw[Bool.not_eq_false',Bool.and_eq_true,Bool.and_eq_true,aY,aY,aY];exact⟨λh=>Prod.ext h.1.1 (Prod.ext h.1.2 h.2),λh=>by rw[h];exact⟨⟨rfl,rfl⟩,rfl⟩⟩
theorem vd (p b q c:ByteArray)(w:World):(binOp .neq 80 (.agg #[.string p,.string b]) (.agg #[.string q,.string c])).run prog w=.ok (.bool (neF p b q c)) w:=by
 have f:=underlying9;have e:=Tryz.isAgg9;have g:=Tryz.sizeOf9;have a:prog.underlying 80=some (.struct (prog.fieldsOf 80)):=by kernel_rfl
 have d:prog.stoodInHeld 80=false:=by kernel_rfl
 rw[run_neq_struct,show (10000:Nat)=9999+1 from rfl,run_equalIn_agg w 9999 80 _ _ a d];simp only[Program.fieldsOf,underlying80];go_simp;unfold neF;by_cases h1:p.toList=q.toList<;>by_cases h2:b.toList=c.toList<;>simp[h1,h2]
theorem As (p o n q r m:ByteArray)(w:World):(binOp .neq 49 (.agg #[.string p,.string o,.string n]) (.agg #[.string q,.string r,.string m])).run prog w=.ok (.bool (neE p o n q r m)) w:=by
 have d:=underlying9;have c:=Tryz.isAgg9;have e:=Tryz.sizeOf9;have a:prog.underlying 49=some (.struct (prog.fieldsOf 49)):=by kernel_rfl
 have b:prog.stoodInHeld 49=false:=by kernel_rfl
 rw[run_neq_struct,show (10000:Nat)=9999+1 from rfl,run_equalIn_agg w 9999 49 _ _ a b];simp only[Program.fieldsOf,underlying49];go_simp;unfold neE;by_cases h1:p.toList=q.toList<;>by_cases h2:o.toList=r.toList<;>by_cases h3:n.toList=m.toList<;>simp[h1,h2,h3]
theorem j3 {l m:List α}(h1:k<l.length)(h2:k<m.length)(h:l.take k=m.take k)(e:l[k]=m[k]):l.take (k+1)=m.take (k+1):=by
 rw[g_ h1,g_ h2,h,e]
theorem ou (l m:List Fl)(b off cap b' off' cap':Nat)(w:World)(he:m.length=l.length)(hn:l.length<8796093022208)(h0:∀i (h:i<l.length),w.cell? ⟨b,off+i*2,none⟩=some (.string l[i].1))(h1:∀i (h:i<l.length),w.cell? ⟨b,off+i*2+1,none⟩=some (.string l[i].2))(g0:∀i (h:i<m.length),w.cell? ⟨b',off'+i*2,none⟩=some (.string m[i].1))(g1:∀i (h:i<m.length),w.cell? ⟨b',off'+i*2+1,none⟩=some (.string m[i].2)):
 c_ 38 #[s_ b off l.length cap,s_ b' off' l.length cap'] w λe w'=>cD e (l=m)/\de w w':=by
 have j:=vd;have c:=hd he;have g:l.length<=m.length:=by omega
 clear he;go_enter func38,ntmps38;go_wp2;go_loopw [5] (λi wr=>∃k n:Nat,k<=l.length/\i=I k/\wr=w.drewN n/\Hid (l.take k=m.take k)) (λi _=>l.length-(intOf i).toNat)
 case atStart=>exact⟨0,0,k_ _,rfl,rfl,rfl⟩
 obtain⟨k,n,o,rfl,rfl,d⟩:=hrel;by_cases hlt:k<l.length
 ·have a:k<m.length:=by omega
  have H:Hid (∀x,x=false->(neF l[k].1 l[k].2 m[k].1 m[k].2=x)->l[k]=m[k]):=λx hx h=>(uZ _ _).1 (h.trans hx)
  have f:Hid (neF l[k].1 l[k].2 m[k].1 m[k].2=true->l≠m):=λh e=>by
   have:neF l[k].1 l[k].2 m[k].1 m[k].2=false:=(uZ _ _).2 (by subst e;rfl);rw[this] at h;cases h
  go_wp2;go_quiet (fail);go_wp2
  ·go_ret;exact⟨.no (f.out ‹_›),.two _ _ _⟩
  go_roundw
  case rel=>exact⟨k+1,_,hlt,by go_num,rfl,j3 hlt a d.out (H.out false rfl ‹_›)⟩
  case measure=>simp[intOf];omega
 go_wp2;go_ret;refine⟨.yes ?_,.one _ _⟩;have:=d.out;rwa [m_ (by omega),m_ (by have:=c.out;omega)] at this
theorem oj (n m cap cap':Nat)(a a':Option Addr)(w:World)(he:((n:Int)==(m:Int))=false):
 c_ 38 #[.slice a n cap,.slice a' m cap'] w λe w'=>e=.returned (.bool false)/\w'=w:=by
 have b:((n:Int) !=(m:Int))=true:=by rw[bne,he];rfl
 go_enter func38,ntmps38;go_wp2;go_ret;exact⟨rfl,rfl⟩
theorem iN (cap cap':Nat)(a a':Option Addr)(w:World):
 c_ 38 #[.slice a 0 cap,.slice a' 0 cap'] w λe w'=>e=.returned (.bool true)/\w'=w:=by
 go_enter func38,ntmps38;go_wp2;go_loop [5] (λi=>i=I 0) (λ_=>0)
 case atStart=>rfl
 subst hrel;go_wp2;go_ret;exact⟨rfl,rfl⟩
theorem eM (l m:List Fl)(va vb:Value)(w:World)(ha:ay w va l)(hb:ay w vb m)(hn:l.length<8796093022208):
 c_ 38 #[va,vb] w λe w'=>cD e (l=m)/\de w w':=by
 have j:∃a c,va=.slice a l.length c:=by
  rcases ha with ⟨rfl,a,c,rfl⟩|⟨b,f,c,rfl,_⟩
  ·exact⟨_,_,rfl⟩
  exact⟨_,_,rfl⟩
 have k:∃a c,vb=.slice a m.length c:=by
  rcases hb with ⟨rfl,a,c,rfl⟩|⟨b,f,c,rfl,_⟩
  ·exact⟨_,_,rfl⟩
  exact⟨_,_,rfl⟩
 by_cases he:l.length=m.length
 ·by_cases hz:l.length=0
  ·have o:l=[]:=List.length_eq_zero_iff.1 hz;have p:m=[]:=List.length_eq_zero_iff.1 (by omega);subst o;subst p;obtain⟨a,c,rfl⟩:=j;obtain⟨i,d,rfl⟩:=k;exact(iN c d a i w).mono λe w' ⟨g,h2⟩=>by subst g h2;exact⟨.yes rfl,.refl _⟩
  rcases ha with ⟨rfl,_⟩|⟨b,f,c,rfl,_,s,g⟩
  ·exact absurd rfl hz
  rcases hb with ⟨rfl,_⟩|⟨n,h,d,rfl,_,q,r⟩
  ·exact absurd he (by simpa using hz)
  have:=ou l m b f c n h d w he.symm hn s g q r;rw[<-he];exact this
 obtain⟨a,c,rfl⟩:=j;obtain⟨i,d,rfl⟩:=k;exact(oj _ _ c d a i w (by rw[beq_eq_false_iff_ne];omega)).mono λe w' ⟨g,h2⟩=>by subst g h2;exact⟨.no (λe=>he (by rw[e])),.refl _⟩
theorem om (l m:List Ed)(b off cap b' off' cap':Nat)(w:World)(he:m.length=l.length)(hn:l.length<8796093022208)(h0:∀i (h:i<l.length),w.cell? ⟨b,off+i*3,none⟩=some (.string l[i].1))(h1:∀i (h:i<l.length),w.cell? ⟨b,off+i*3+1,none⟩=some (.string l[i].2.1))(h2:∀i (h:i<l.length),w.cell? ⟨b,off+i*3+2,none⟩=some (.string l[i].2.2))(g0:∀i (h:i<m.length),w.cell? ⟨b',off'+i*3,none⟩=some (.string m[i].1))(g1:∀i (h:i<m.length),w.cell? ⟨b',off'+i*3+1,none⟩=some (.string m[i].2.1))(g2:∀i (h:i<m.length),w.cell? ⟨b',off'+i*3+2,none⟩=some (.string m[i].2.2)):
 c_ 88 #[s_ b off l.length cap,s_ b' off' l.length cap'] w λe w'=>cD e (l=m)/\de w w':=by
 have j:=As;have c:=hd he;have g:l.length<=m.length:=by omega
 clear he;go_enter func88,ntmps88;go_wp2;go_loopw [5] (λi wr=>∃k n:Nat,k<=l.length/\i=I k/\wr=w.drewN n/\Hid (l.take k=m.take k)) (λi _=>l.length-(intOf i).toNat)
 case atStart=>exact⟨0,0,k_ _,rfl,rfl,rfl⟩
 obtain⟨k,n,o,rfl,rfl,d⟩:=hrel;by_cases hlt:k<l.length
 ·have a:k<m.length:=by omega
  have H:Hid (∀x,x=false->(neE l[k].1 l[k].2.1 l[k].2.2 m[k].1 m[k].2.1 m[k].2.2=x)->l[k]=m[k]):=λx hx h=>(ve _ _).1 (h.trans hx)
  have f:Hid (neE l[k].1 l[k].2.1 l[k].2.2 m[k].1 m[k].2.1 m[k].2.2=true->l≠m):=λh e=>by
   have:neE l[k].1 l[k].2.1 l[k].2.2 m[k].1 m[k].2.1 m[k].2.2=false:=(ve _ _).2 (by subst e;rfl);rw[this] at h;cases h
  go_wp2;go_quiet (fail);go_wp2
  ·go_ret;exact⟨.no (f.out ‹_›),.two _ _ _⟩
  go_roundw
  case rel=>exact⟨k+1,_,hlt,by go_num,rfl,j3 hlt a d.out (H.out false rfl ‹_›)⟩
  case measure=>simp[intOf];omega
 go_wp2;go_ret;refine⟨.yes ?_,.one _ _⟩;have:=d.out;rwa [m_ (by omega),m_ (by have:=c.out;omega)] at this
theorem oq (n m cap cap':Nat)(a a':Option Addr)(w:World)(he:((n:Int)==(m:Int))=false):
 c_ 88 #[.slice a n cap,.slice a' m cap'] w λe w'=>e=.returned (.bool false)/\w'=w:=by
 have b:((n:Int) !=(m:Int))=true:=by rw[bne,he];rfl
 go_enter func88,ntmps88;go_wp2;go_ret;exact⟨rfl,rfl⟩
theorem mE (cap cap':Nat)(a a':Option Addr)(w:World):
 c_ 88 #[.slice a 0 cap,.slice a' 0 cap'] w λe w'=>e=.returned (.bool true)/\w'=w:=by
 go_enter func88,ntmps88;go_wp2;go_loop [5] (λi=>i=I 0) (λ_=>0)
 case atStart=>rfl
 subst hrel;go_wp2;go_ret;exact⟨rfl,rfl⟩
theorem ot (l m:List Ed)(va vb:Value)(w:World)(ha:aH w va l)(hb:aH w vb m)(hn:l.length<8796093022208):
 c_ 88 #[va,vb] w λe w'=>cD e (l=m)/\de w w':=by
 have k:∃a c,va=.slice a l.length c:=by
  rcases ha with ⟨rfl,a,c,rfl⟩|⟨b,f,c,rfl,_⟩
  ·exact⟨_,_,rfl⟩
  exact⟨_,_,rfl⟩
 have n:∃a c,vb=.slice a m.length c:=by
  rcases hb with ⟨rfl,a,c,rfl⟩|⟨b,f,c,rfl,_⟩
  ·exact⟨_,_,rfl⟩
  exact⟨_,_,rfl⟩
 by_cases he:l.length=m.length
 ·by_cases hz:l.length=0
  ·have p:l=[]:=List.length_eq_zero_iff.1 hz;have q:m=[]:=List.length_eq_zero_iff.1 (by omega);subst p;subst q;obtain⟨a,c,rfl⟩:=k;obtain⟨j,d,rfl⟩:=n;exact(mE c d a j w).mono λe w' ⟨g,h⟩=>by subst g h;exact⟨.yes rfl,.refl _⟩
  rcases ha with ⟨rfl,_⟩|⟨b,f,c,rfl,_,u,g,h⟩
  ·exact absurd rfl hz
  rcases hb with ⟨rfl,_⟩|⟨o,i,d,rfl,_,r,s,t⟩
  ·exact absurd he (by simpa using hz)
  have:=om l m b f c o i d w he.symm hn u g h r s t;rw[<-he];exact this
 obtain⟨a,c,rfl⟩:=k;obtain⟨j,d,rfl⟩:=n;exact(oq _ _ c d a j w (by rw[beq_eq_false_iff_ne];omega)).mono λe w' ⟨g,h⟩=>by subst g h;exact⟨.no (λe=>he (by rw[e])),.refl _⟩
def ltB (a b:ByteArray):Bool:=decide (a.data.toList<b.data.toList)
theorem qZ {a b:ByteArray}(h:a.data.toList.take k=b.data.toList.take k):ltB a b=decide (a.data.toList.drop k<b.data.toList.drop k):=by
 unfold ltB;rw[decide_eq_decide];conv=>lhs;rw[<-X_ k a.data.toList,<-X_ k b.data.toList,h]
 generalize b.data.toList.take k=c;induction c with
 |nil=>rfl
 |cons x c ih=>simpa[List.cons_lt_cons_iff] using ih
theorem pQ (a:ByteArray)(k:Nat)(h:k<a.size):a.data.toList.drop k=a[k]::a.data.toList.drop (k+1):=by
 rw[M_ (by simpa using h)];rfl
theorem vh (a:ByteArray)(k:Nat)(h:k<a.size):a.data.toList.take (k+1)=a.data.toList.take k++[a[k]]:=by
 rw[g_ (by simpa using h)];rfl
theorem Cd {a b:ByteArray}(h1:k<a.size)(h2:k<b.size)(hs:a.data.toList.take k=b.data.toList.take k)(h:((a[k].toNat:Int) !=(b[k].toNat:Int))=true):
 decide (a[k].toNat<b[k].toNat)=ltB a b:=by
 rw[qZ hs,pQ a k h1,pQ b k h2,decide_eq_decide,List.cons_lt_cons_iff,UInt8.lt_iff_toNat_lt];have c:a[k]≠b[k]:=λe=>by rw[e] at h;simp at h
 simp[c]
theorem Cc {a b:ByteArray}(h1:k<a.size)(h2:k<b.size)(hs:a.data.toList.take k=b.data.toList.take k)(h:((a[k].toNat:Int) !=(b[k].toNat:Int))=false):
 a.data.toList.take (k+1)=b.data.toList.take (k+1):=by
 have c:(a[k].toNat:Int)=b[k].toNat:=by simpa using h
 have e:a[k]=b[k]:=UInt8.toNat_inj.1 (by omega);rw[vh a k h1,vh b k h2,hs,e]
theorem vg {a b:ByteArray}(h1:k<=a.size)(h2:k<=b.size)(h:k=a.size\/k=b.size)(hs:a.data.toList.take k=b.data.toList.take k):decide (a.size<b.size)=ltB a b:=by
 rw[qZ hs];have c:=Lib.size_eq a;have d:=Lib.size_eq b;rcases h with h|h
 ·rw[Y_ (l:=a.data.toList) (by omega)];by_cases hb:k<b.size
  ·rw[pQ b k hb];simp;omega
  rw[Y_ (l:=b.data.toList) (by omega)];simp;omega
 rw[Y_ (l:=b.data.toList) (by omega)];have:¬a.size<b.size:=by omega
 simp[this]
theorem mF {a b:Bool}(h:a=b):Ending.returned (.bool a)=.returned (.bool b):=by rw[h]
theorem kL (a b:ByteArray)(w:World)(ha:a.size<=maxLen):
 c_ 125 #[.string a,.string b] w λe w'=>e=.returned (.bool (ltB a b))/\de w w':=by
 unfold maxLen at ha;go_enter func125,ntmps125;go_wp2;go_loopw [5] (λi wr=>∃k n:Nat,k<=a.size/\k<=b.size/\i=I k/\wr=w.drewN n/\Hid (a.data.toList.take k=b.data.toList.take k)) (λi _=>a.size-(intOf i).toNat)
 case atStart=>exact⟨0,0,k_ _,k_ _,rfl,rfl,rfl⟩
 obtain⟨k,n,c,d,rfl,rfl,f⟩:=hrel;by_cases h1:k<a.size
 ·by_cases h2:k<b.size
  ·go_wp2;go_quiet (fail);go_wp2
   ·go_quiet (fail);go_wp2;go_ret;exact⟨mF (Cd h1 h2 f.out ‹_›),.three _ _ _ _⟩
   exact⟨⟨k+1,_,h1,h2,by go_num,rfl,Cc h1 h2 f.out ‹_›⟩,by simp[intOf];omega⟩
  go_wp2;go_ret;exact⟨mF (vg c d (by omega) f.out),.one _ _⟩
 go_wp2;go_ret;exact⟨mF (vg c d (by omega) f.out),.one _ _⟩
variable{j:Nat}{ok:α->Bool}{key:α->ByteArray}
theorem i6 {l:List α}(hk:k<l.length)(h:¬ok l[k]=true):¬cB ok key l:=λhg=>h (hg.1 _ (i_ hk))
theorem ig {l:List α}(hk:k<l.length)(hj:j<k)(h:key (l[j]'(by omega))=key l[k]):¬cB ok key l:=λhg=>
 List.pairwise_iff_getElem.1 hg.2 j k (by omega) hk hj h
theorem pR (l:List Fl)(v:Value)(w:World)(hl:ay w v l)(hn:l.length<8796093022208):
 c_ 82 #[v] w λe w'=>cD e (cB dy Prod.fst l)/\de w w':=by
 rcases hl with ⟨rfl,a,p,rfl⟩|⟨b,A,p,rfl,g,B,C⟩
 ·go_enter func82,ntmps82;go_wp2;go_loop [3] (λi=>i=I 0) (λ_=>0)
  case atStart=>rfl
  subst hrel;go_wp2;go_ret;exact⟨.yes (cB.nil _ _),.refl _⟩
 go_enter func82,ntmps82;go_wp2;go_loopw [3] (λi wr=>∃k n:Nat,k<=l.length/\i=I k/\wr=w.drewN n/\Hid (cB dy Prod.fst (l.take k))) (λi _=>l.length-(intOf i).toNat)
 case atStart=>exact⟨0,0,k_ _,rfl,rfl,cB.nil _ _⟩
 obtain⟨k,n,E,rfl,rfl,s⟩:=hrel;by_cases g:k<l.length
 ·by_cases hok:dy l[k]=true
  ·have H:=i4 (ok:=dy) (key:=Prod.fst) g;have t:Hid ((∀j (h:j<k),(l[j]'(by omega)).1≠l[k].1)->cB dy Prod.fst (l.take (k+1))):=λh=>H.2 ⟨s.out,hok,h⟩;obtain⟨⟨F,G⟩,J,K⟩:=(dz _).1 hok;clear H hok;go_wp2;go_loopw [4] (λi wr=>∃j m:Nat,j<=k/\i=I j/\wr=w.drewN m/\Hid (∀x (h:x<j) (h':x<l.length),l[x].1≠l[k].1)) (λi _=>k-(intOf i).toNat)
   case atStart=>exact⟨0,n,k_ _,rfl,rfl,λx h=>by omega⟩
   obtain⟨j,m,D,rfl,rfl,r⟩:=hrel;by_cases hjk:j<k
   ·have z:j<l.length:=by omega
    go_wp2;go_quiet (fail);go_wp2
    ·go_ret;exact⟨.no (ig g hjk ((aY _ _).1 ‹_›)),.two _ _ _⟩
    go_roundw
    case rel=>exact⟨j+1,_,hjk,by go_num,rfl,λx hx hx'=>by
     by_cases e:x=j
     ·subst e;exact(bS _ _).1 ‹_›
     exact r.out x (by omega) hx'⟩
    case measure=>simp[intOf];omega
   go_wp2;go_roundw
   case rel=>exact⟨k+1,_,g,by go_num,rfl,t.out λx hx=>r.out x (by omega) (by omega)⟩
   case measure=>simp[intOf];omega
  have q:¬cB dy Prod.fst l:=i6 g hok;have u:=hd q;have o:¬((1<=l[k].1.size/\l[k].1.size<=8)/\1<=l[k].2.size/\l[k].2.size<=8):=λh=>hok ((dz _).2 h);clear q hok;have y:l[k].1.size<1\/(1<=l[k].1.size/\8<l[k].1.size)\/(1<=l[k].1.size/\l[k].1.size<=8/\l[k].2.size<1)\/(1<=l[k].1.size/\l[k].1.size<=8/\1<=l[k].2.size/\8<l[k].2.size):=by omega
  clear o;rcases y with c|⟨c,d⟩|⟨c,d,e⟩|⟨c,d,e,f⟩
  all_goals
   go_wp2;go_ret;exact⟨.no u.out,.one _ _⟩
 go_wp2;go_ret;refine⟨.yes ?_,.one _ _⟩;have:=s.out;rwa [m_ (by omega)] at this
theorem pS (n cap:Nat)(a:Option Addr)(w:World)(h:n<1\/4<n)(hn:n<8796093022208):
 c_ 130 #[.slice a n cap] w λe w'=>e=.returned (.bool false)/\w'=w:=by
 rcases h with h|h
 ·go_enter func130,ntmps130;go_wp2;go_ret;exact⟨rfl,rfl⟩
 have b:¬n<1:=by omega
 go_enter func130,ntmps130;go_wp2;go_ret;exact⟨rfl,rfl⟩
def bT (l:List Ed):Prop:=1<=l.length/\l.length<=4/\cB iI Prod.fst l
variable{l:List Fl}{b:Nat}{w wr:World}
theorem ct {l:List Ed}(hb:Bl w wr)(hlt:b<w.heap.size)(h0:∀i (h:i<l.length),w.cell? ⟨b,off+i*3,none⟩=some (.string l[i].1))(h1:∀i (h:i<l.length),w.cell? ⟨b,off+i*3+1,none⟩=some (.string l[i].2.1))(h2:∀i (h:i<l.length),w.cell? ⟨b,off+i*3+2,none⟩=some (.string l[i].2.2)):
 (∀i (h:i<l.length),wr.cell? ⟨b,off+i*3,none⟩=some (.string l[i].1))/\(∀i (h:i<l.length),wr.cell? ⟨b,off+i*3+1,none⟩=some (.string l[i].2.1))/\(∀i (h:i<l.length),wr.cell? ⟨b,off+i*3+2,none⟩=some (.string l[i].2.2))/\b<wr.heap.size:=
 ⟨λi h=>(hb.cell (by exact hlt)).trans (h0 i h),λi h=>(hb.cell (by exact hlt)).trans (h1 i h),λi h=>(hb.cell (by exact hlt)).trans (h2 i h),h_ hlt hb.size⟩
theorem eY (hb:Bl w wr)(hlt:b<w.heap.size)(h0:∀i (h:i<l.length),w.cell? ⟨b,off+i*2,none⟩=some (.string l[i].1))(h1:∀i (h:i<l.length),w.cell? ⟨b,off+i*2+1,none⟩=some (.string l[i].2)):
 (∀i (h:i<l.length),wr.cell? ⟨b,off+i*2,none⟩=some (.string l[i].1))/\(∀i (h:i<l.length),wr.cell? ⟨b,off+i*2+1,none⟩=some (.string l[i].2))/\b<wr.heap.size:=
 ⟨λi h=>(hb.cell (by exact hlt)).trans (h0 i h),λi h=>(hb.cell (by exact hlt)).trans (h1 i h),h_ hlt hb.size⟩
theorem oP (hb:Bl w wr)(o:Obj)(m:Nat):Bl w ((wr.alloc o).drewN m):=
 (hb.alloc hb.size o).trans ⟨rfl,rfl,rfl,b_ _,λ_ _=>rfl⟩
theorem pT (l:List Ed)(b off cap:Nat)(w:World)(hlt:b<w.heap.size)(h0:∀i (h:i<l.length),w.cell? ⟨b,off+i*3,none⟩=some (.string l[i].1))(h1:∀i (h:i<l.length),w.cell? ⟨b,off+i*3+1,none⟩=some (.string l[i].2.1))(h2:∀i (h:i<l.length),w.cell? ⟨b,off+i*3+2,none⟩=some (.string l[i].2.2))(hn1:1<=l.length)(hn4:l.length<=4):
 c_ 130 #[s_ b off l.length cap] w λe w'=>cD e (cB iI Prod.fst l)/\Bl w w':=by
 go_enter func130,ntmps130;go_wp2;go_loopw [3] (λi wr=>∃k:Nat,k<=l.length/\i=I k/\Bl w wr/\Hid (cB iI Prod.fst (l.take k))) (λi _=>l.length-(intOf i).toNat)
 case atStart=>exact⟨0,k_ _,rfl,n_ _ _,cB.nil _ _⟩
 obtain⟨k,C,rfl,n,p⟩:=hrel;obtain⟨v,y,z,A⟩:=ct n hlt h0 h1 h2;clear h0 h1 h2;by_cases hlk:k<l.length
 ·by_cases hok:iI l[k]=true
  ·have H:=i4 (ok:=iI) (key:=Prod.fst) hlk;have r:Hid ((∀j (h:j<k),(l[j]'(by omega)).1≠l[k].1)->cB iI Prod.fst (l.take (k+1))):=λh=>H.2 ⟨p.out,hok,h⟩;obtain⟨⟨D,E⟩,F,G,q⟩:=(iK _).1 hok;have J:=(bS _ _).2 q;clear H hok q;go_wp2;go_loopw [5] (λi wr'=>∃j m:Nat,j<=k/\i=I j/\wr'=(wr.alloc (.cells #[.string l[k].1,.string l[k].2.1,.string l[k].2.2] 49)).drewN m/\Hid (∀x (h:x<j) (h':x<l.length),l[x].1≠l[k].1)) (λi _=>k-(intOf i).toNat)
   case atStart=>exact⟨0,0,k_ _,rfl,rfl,λx h=>by omega⟩
   obtain⟨j,m,B,rfl,rfl,o⟩:=hrel;by_cases hjk:j<k
   ·have u:j<l.length:=by omega
    go_wp2;go_quiet (fail);go_wp2
    ·go_ret;refine⟨.no (ig hlk hjk ((aY _ _).1 ‹_›)),?_⟩;simp only[World.drewN_drewN];exact oP n _ _
    go_roundw
    case rel=>exact⟨j+1,_,hjk,by go_num,rfl,λx hx hx'=>by
     by_cases e:x=j
     ·subst e;exact(bS _ _).1 ‹_›
     exact o.out x (by omega) hx'⟩
    case measure=>simp[intOf];omega
   go_wp2;go_roundw
   case rel=>exact⟨k+1,hlk,by go_num,oP n _ _,r.out λx hx=>o.out x (by omega) (by omega)⟩
   case measure=>simp[intOf];omega
  have s:Hid (¬cB iI Prod.fst l):=i6 hlk hok;have a:¬((1<=l[k].1.size/\l[k].1.size<=8)/\l[k].2.1.size<=8/\l[k].2.2.size<=8/\l[k].2.1≠l[k].2.2):=λh=>hok ((iK _).2 h)
  have hd:(l[k].2.1.toList==l[k].2.2.toList)=true\/l[k].2.1≠l[k].2.2:=by
   by_cases e:l[k].2.1=l[k].2.2
   ·exact .inl ((aY _ _).2 e)
   exact .inr e
  have t:l[k].1.size<1\/(1<=l[k].1.size/\8<l[k].1.size)\/(1<=l[k].1.size/\l[k].1.size<=8/\8<l[k].2.1.size)\/(1<=l[k].1.size/\l[k].1.size<=8/\l[k].2.1.size<=8/\8<l[k].2.2.size)\/
   (1<=l[k].1.size/\l[k].1.size<=8/\l[k].2.1.size<=8/\l[k].2.2.size<=8/\(l[k].2.1.toList==l[k].2.2.toList)=true):=by
   rcases hd with h|h
   ·have:l[k].1.size<1\/(1<=l[k].1.size/\8<l[k].1.size)\/(1<=l[k].1.size/\l[k].1.size<=8/\8<l[k].2.1.size)\/(1<=l[k].1.size/\l[k].1.size<=8/\l[k].2.1.size<=8/\8<l[k].2.2.size)\/(1<=l[k].1.size/\l[k].1.size<=8/\l[k].2.1.size<=8/\l[k].2.2.size<=8):=by omega
    rcases this with c|c|c|c|⟨c,d,e,f⟩
    ·exact .inl c
    ·exact .inr (.inl c)
    ·exact .inr (.inr (.inl c))
    ·exact .inr (.inr (.inr (.inl c)))
    exact .inr (.inr (.inr (.inr ⟨c,d,e,f,h⟩)))
   have:l[k].1.size<1\/(1<=l[k].1.size/\8<l[k].1.size)\/(1<=l[k].1.size/\l[k].1.size<=8/\8<l[k].2.1.size)\/(1<=l[k].1.size/\l[k].1.size<=8/\l[k].2.1.size<=8/\8<l[k].2.2.size)\/(1<=l[k].1.size/\l[k].1.size<=8/\l[k].2.1.size<=8/\l[k].2.2.size<=8):=by omega
   rcases this with c|c|c|c|⟨c,d,e,f⟩
   ·exact .inl c
   ·exact .inr (.inl c)
   ·exact .inr (.inr (.inl c))
   ·exact .inr (.inr (.inr (.inl c)))
   exact absurd ⟨⟨c,d⟩,e,f,h⟩ a
  clear a hd hok;rcases t with c|⟨c,d⟩|⟨c,d,e⟩|⟨c,d,e,f⟩|⟨c,d,e,f,g⟩
  all_goals
   go_wp2;go_ret;exact⟨.no s.out,n.alloc n.size _⟩
 go_wp2;go_ret;refine⟨.yes ?_,n⟩;have:=p.out;rwa [m_ (by omega)] at this
theorem pU (l:List Ed)(v:Value)(w:World)(hl:aH w v l)(hn:l.length<8796093022208):
 c_ 130 #[v] w λe w'=>cD e (bT l)/\Bl w w':=by
 by_cases h:l.length<1\/4<l.length
 ·have n:∃a c,v=.slice a l.length c:=by
   rcases hl with ⟨rfl,a,c,rfl⟩|⟨b,d,c,rfl,_⟩
   ·exact⟨_,_,rfl⟩
   exact⟨_,_,rfl⟩
  obtain⟨a,c,rfl⟩:=n;refine(pS l.length c a w h hn).mono ?_;rintro e w' ⟨rfl,rfl⟩;exact⟨.no λhg=>by unfold bT at hg;omega,n_ _ _⟩
 rcases hl with ⟨rfl,_⟩|⟨b,d,c,rfl,f,g,i,j⟩
 ·simp at h
 refine(pT l b d c w f g i j (by omega) (by omega)).mono ?_;rintro e w' ⟨⟨r,rfl,m⟩,k⟩;exact⟨⟨r,rfl,m.trans ⟨λhg=>⟨by omega,by omega,hg⟩,λhg=>hg.2.2⟩⟩,k⟩
variable{o:Obj}{w1 w2:World}
theorem At:(prog.info? 49).map (λi=>(i.zero,i.size,i.bytes))=some (some (.agg #[.string ⟨#[]⟩,.string ⟨#[]⟩,.string ⟨#[]⟩]),3,48):=by kernel_rfl
theorem th (h:Bl w1 w2)(e:w1.heap=(wr.alloc o).heap)(e1:w1.os=wr.os)(e2:w1.tape=wr.tape)(e3:w1.output=wr.output):Bl wr w2:=by
 have a:Below (wr.alloc o).heap.size (wr.alloc o) w2:=⟨h.os.trans e1,h.tape.trans e2,h.output.trans e3,by rw[<-e];exact h.size,λk hk=>by rw[<-e] at hk ⊢;exact h.block k hk⟩;exact((n_ _ _).alloc (b_ _) o).trans (a.mono (by simp))
section
open Go.Maps
variable{D:DataW Unit}{ids:List Nat}{n sb:Nat}{w':World}
theorem Cb:Keyed prog 3:=int_keyed underlying3
theorem tf:prog.underlying 194=some (.map 3 258):=underlying194
theorem Dm (h:n<9223372036854775808):keyOf prog 3 (.int .i64 n)=some (.int .i64 n):=keyOf_int_mk underlying3 (by simp[Lit.wf,IntKind.min,IntKind.max,IntKind.signed,IntKind.bits];omega)
theorem Dn (w:World):(zeroValue 258).run prog w=.ok (.agg #[]) w:=by kernel_rfl
def dR (w:World)(sb:Nat)(ids:List Nat):Prop:=∃D:DataW Unit,w.ownsMap prog 3 unitElem sb ids.length D/\Maps.size D=ids.length/\∀i:Nat,Maps.has D (.int .i64 i)=ids.contains i
theorem dR.lt (h:dR w sb ids):sb<w.heap.size:=by
 obtain⟨D,a,b,c⟩:=h;exact a.lt
theorem dR.same (h:dR w sb ids)(hb:w'.heap[sb]? =w.heap[sb]?):dR w' sb ids:=by
 obtain⟨D,c,d,e⟩:=h;refine⟨D,?_,d,e⟩;obtain⟨b,a,f,g⟩:=c;exact⟨b,a,hb.trans f,g⟩
theorem dR.made (w:World):dR (w.alloc (.map #[] 0)) w.heap.size []:=⟨.map [],World.ownsMap_made _ _ _ _,rfl,λ_=>rfl⟩
theorem dR.put (hD:IsMap D)(hT:Tidy D)(hs:Maps.size D=ids.length)(hh:∀i:Nat,Maps.has D (.int .i64 i)=ids.contains i)(hn:n∉ids)(h:w'.ownsMap prog 3 unitElem sb (ids.length+1) (D.put (.int .i64 n) (.agg []))):dR w' sb (ids++[n]):=by
 have a:Maps.has D (.int .i64 n)=false:=by rw[hh n];simpa using hn
 refine⟨_,by rw[a_];exact h,?_,λi=>?_⟩
 ·rw[Maps.size_put hT,a];simp[hs]
 by_cases e:i=n
 ·subst e;rw[has_put_same hD (show WideAt.IsKeyLit (Lit.int .i64 (i:Int)) from trivial)];simp
 rw[has_put_other (λx=>e (by injection x with _ x;omega)),hh i];simp[e]
end
variable{es:List Ed}{xs:List Value}{base m n size:Nat}{e:TypeId}{w':World}
def gH (w:World)(g:Nat)(e:TypeId):Prop:=∃cur,w.heap[g]? =some (.cells cur e (0,0))
theorem gH.lt {g:Nat}(h:gH w g e):g<w.heap.size:=by
 obtain⟨a,h⟩:=h;exact(j_.1 h).1
theorem gH.later {g:Nat}(h:gH w g e)(hb:Bl w w'):gH w' g e:=by
 have b:=h.lt;obtain⟨a,h⟩:=h;exact⟨a,(hb.block g b).trans h⟩
theorem gH.set {g:Nat}(h:gH w g e)(o:Nat)(u:Value):gH (w.setCell ⟨g,o,none⟩ u) g e:=by
 obtain⟨a,h⟩:=h;exact⟨a.setIfInBounds o u,by simp[World.setCell,Array.getElem?_modify,h]⟩
theorem gH.of_row {g:Nat}(h:w.ownsRow base e size (s_ g 0 n m) n xs):gH w g e:=by
 rcases h.2 with ⟨b,_⟩|⟨f,c,a,b,i,d,_⟩
 ·cases b
 cases b
 exact⟨a,d⟩
theorem Sl.of_half {g:Nat}(h:du w g es.length es.length es)(ht:gH w g e)(hn:es.length<=n)(hm:n<=maxLen:=by decide):Sl w e 3 (s_ g 0 es.length es.length) es.length (es.flatMap cE):=by
 obtain⟨d,l⟩:=ht
 have b:∀j v,w.cell? ⟨g,j,none⟩=some v->d[j]? =some v:=λj v a=>by
  simpa[World.cell?,l] using a
 refine⟨aR cE 3 (λ_=>rfl) es,.inr ⟨g,0,es.length,d,rfl,l,b_ _,e_ hn hm,?_,λj u hu=>?_⟩⟩
 ·rcases Nat.eq_zero_or_pos es.length with i|i
  ·omega
  obtain⟨v,a⟩:=(h.2.1 (es.length*3-1) (by omega)).1;have:=(j_.1 (b _ _ a)).1;omega
 have q:=(N_.1 hu).1;rw[aR cE 3 (λ_=>rfl)] at q;have k:j/3<es.length:=by omega
 have m:j=j/3*3+j%3:=by omega
 have c:=aq cE 3 (λ_=>rfl) es (j/3) (j%3) k (by omega);rw[<-m,hu] at c;obtain⟨i,o,p⟩:=h.2.2 (j/3) k k;rw[O_];rcases (show j%3=0\/j%3=1\/j%3=2 by omega) with f|f|f
 ·rw[f] at c;have a:u=.string es[j/3].1:=by simpa[cE] using c
  rw[a,<-b _ _ i];congr 1;omega
 ·rw[f] at c;have a:u=.string es[j/3].2.1:=by simpa[cE] using c
  rw[a,<-b _ _ o];congr 1;omega
 rw[f] at c;have a:u=.string es[j/3].2.2:=by simpa[cE] using c
 rw[a,<-b _ _ p];congr 1;omega
theorem pV (es:List Ed)(b off cap:Nat)(w:World)(hlt:b<w.heap.size)(h0:∀i (h:i<es.length),w.cell? ⟨b,off+i*3,none⟩=some (.string es[i].1))(h1:∀i (h:i<es.length),w.cell? ⟨b,off+i*3+1,none⟩=some (.string es[i].2.1))(h2:∀i (h:i<es.length),w.cell? ⟨b,off+i*3+2,none⟩=some (.string es[i].2.2))(hn:es.length<=4)(hsz:∀x∈es,x.1.size<=281474976710656/\x.2.1.size<=281474976710656/\x.2.2.size<=281474976710656):
 c_ 167 #[s_ b off es.length cap] w λe w'=>e=.returned (s_ (w.heap.size) 0 es.length es.length)/\Sl w' 49 3 (s_ (w.heap.size) 0 es.length es.length) es.length (es.flatMap cE)/\Bl w w':=by
 obtain⟨K,X,v,y,z⟩:=info_parts At;have L:K.bytes*es.length<=281474976710656:=by rw[z];omega
 have M:es.length<=maxLen:=by unfold maxLen;omega
 go_enter func167,ntmps167;go_wp2_with (at_make;refine wpList_make_full _ rfl _ _ _ rfl w.heap.size _ K _ 3 underlying27 X v y _ _ _ _ es.length rfl rfl (by omega) (by omega) L M (b_ _) ?_;intro w1 hrow1 hg1);have B:du w1 w.heap.size es.length 0 es:=du.made hrow1;have j:=(n_ _ _).grown hg1 (b_ _) (by simp);have D:=gH.of_row hrow1;clear hrow1 hg1 L M;go_loopw [11] (λi wr=>∃k:Nat,k<=es.length/\i=I k/\du wr w.heap.size es.length k es/\Bl w wr/\Hid (gH wr w.heap.size 49)) (λi _=>es.length-(intOf i).toNat)
 case atStart=>exact⟨0,k_ _,rfl,B,j,D⟩
 obtain⟨k,hk,rfl,q,r,H⟩:=hrel;clear B j D;by_cases hlk:k<es.length
 ·obtain⟨E,F,G,gb⟩:=ct r hlt h0 h1 h2;obtain⟨N,O,P⟩:=hsz _ (i_ hlk);have T:=E k hlk;have U:=F k hlk;have V:=G k hlk;have a:Hid (∀w',du w' w.heap.size es.length k es->du (((w'.setCell ⟨w.heap.size,k*3,none⟩ (.string es[k].1)).setCell ⟨w.heap.size,k*3+1,none⟩ (.string es[k].2.1)).setCell ⟨w.heap.size,k*3+2,none⟩ (.string es[k].2.2)) w.heap.size es.length (k+1) es):=λw' h=>h.set hlk rfl;have t:=hd q;have C:=hd r;have J:=Nat.ne_of_lt q.1;clear h0 h1 h2 hsz E F G q r;generalize es[k].1=p at N T a;generalize es[k].2.1=o at O U a;generalize es[k].2.2=n at P V a;go_wp2
  go_region_held_law (λw'=>w'.cell? ⟨wr.heap.size,0,none⟩=some (.string p)/\w'.cell? ⟨wr.heap.size,1,none⟩=some (.string o)/\w'.cell? ⟨wr.heap.size,2,none⟩=some (.string n)) (go_keep) (first
   |(go_at_call 129;refine(gG p _ N).mono ?_;rintro e l ⟨rfl,g⟩;have Y:l.cell? ⟨wr.heap.size,0,none⟩=some (.string p):=bH g (by simp);have Z:l.cell? ⟨wr.heap.size,1,none⟩=some (.string o):=bH g (by simp);have k2:l.cell? ⟨wr.heap.size,2,none⟩=some (.string n):=bH g (by simp);have m:Hid (Bl wr l):=th g rfl rfl rfl rfl;have R:Hid (du l w.heap.size es.length k es):=t.out.later m.out)
   |(go_at_call 129;refine(gG o _ O).mono ?_;rintro e w3 ⟨rfl,d⟩;have k3:=bH d Y;have k4:=bH d Z;have k5:=bH d k2)
   |(go_at_call 129;refine(gG n _ P).mono ?_;rintro e Q ⟨rfl,f⟩;have k6:=bH f k3;have k7:=bH f k4;have k8:=bH f k5;have c:du Q w.heap.size es.length k es:=du.later (du.later R.out d) f;have A:Hid (Bl wr Q):=(m.out.trans (d.mono m.out.size)).trans (f.mono (e_ m.out.size d.size));have z0:=(c.2.1 (k*3) (by omega)).2;have z1:=(c.2.1 (k*3+1) (by omega)).2;have z2:=(c.2.1 (k*3+2) (by omega)).2;obtain⟨u0,y0⟩:=(c.2.1 (k*3) (by omega)).1;obtain⟨u1,y1⟩:=(c.2.1 (k*3+1) (by omega)).1;obtain⟨u2,y2⟩:=(c.2.1 (k*3+2) (by omega)).1))
  have W:=a.out _ (by assumption);have s:=C.out.trans (A.out.mono C.out.size);have h2:w.heap.size<=w.heap.size:=b_ _;have S:=hd (H.out.later A.out);go_wp2;go_roundw
  case rel=>exact⟨k+1,hlk,by go_num,W,((s.setCell h2 _).setCell h2 _).setCell h2 _,((S.out.set _ _).set _ _).set _ _⟩
  case measure=>simp[intOf];omega
 go_wp2;go_ret;have u:k=es.length:=by omega
 subst u;exact⟨rfl,Sl.of_half q H.out hn,r⟩
end
end Go.Proofs.YtgamgomepdfgdaaGreat
