import Derived.Lib.Bytealg
import Derived.Lib.Strings
import Derived.WalkSpells
import Derived.Deep.Draws
import Derived.WalkLawsBesides
import Derived.Laws.IdiomStrings
import Derived.Laws.Tables
import Derived.Deep.DeepFit
import Derived.Maps.AppendAt
import Derived.Deep.CutRange
import Derived.Deep.CutBlock
import Derived.Lib.EndianBits
import Derived.Lib.AppendStr
import Derived.OwnWalk
import Derived.Test.YtgamgomepdfgdaaGreatAM01
set_option maxRecDepth 100000
set_option maxHeartbeats 8000000
namespace Go.Proofs.YtgamgomepdfgdaaGreat
open Go.RowKit Go.Proofs.Tryz
section
variable{g:ByteArray->ByteArray}{k:Nat}{α:Type}{ok:α->Bool}{key:α->ByteArray}
abbrev Fl:=ByteArray×ByteArray
abbrev Ed:=ByteArray×ByteArray×ByteArray
theorem gW {a b:ByteArray}(h:a.toList=b.toList):a=b:=by
 rw[Lib.toList_data,Lib.toList_data] at h;rw[<-Lib.mk_data a,<-Lib.mk_data b,h]
theorem fK {a b:ByteArray}(h:a.data.toList=b.data.toList):a=b:=gW (by rw[Lib.toList_data,Lib.toList_data,h])
theorem aY (a b:ByteArray):(a.toList==b.toList)=true↔a=b:=by
 rw[beq_iff_eq];exact⟨gW,λh=>by rw[h]⟩
theorem bS (a b:ByteArray):(a.toList==b.toList)=false↔a≠b:=by
 rw[<-Bool.not_eq_true,aY]
theorem iY (s:ByteArray):s.toList.isEmpty=true↔s=⟨#[]⟩:=by
 rw[List.isEmpty_iff];constructor
 ·intro h;exact gW (by rw[h,Lib.toList_data])
 intro h;rw[h,Lib.toList_data]
def aF:List Fl->ByteArray->ByteArray
 |[],_=>⟨#[]⟩
 |f::l,q=>if f.1.toList==q.toList then f.2 else aF l q
theorem eQ (f:Fl)(l:List Fl)(q:ByteArray)(h:(f.1.toList==q.toList)=true):aF (f::l) q=f.2:=by simp[aF,h]
theorem dp (f:Fl)(l:List Fl)(q:ByteArray)(h:(f.1.toList==q.toList)=false):aF (f::l) q=aF l q:=by simp[aF,h]
def dr {α:Type}(key:α->ByteArray)(l:List α):Prop:=l.Pairwise λa b=>key a≠key b
theorem gX {l:List Fl}{q:ByteArray}(h:∀f∈l,f.1≠q):aF l q=⟨#[]⟩:=by
 induction l with
 |nil=>rfl
 |cons f l ih=>
  rw[dp _ _ _ ((bS _ _).2 (h f (by simp)))];exact ih λg hg=>h g (by simp[hg])
theorem dN {l:List Fl}(ha:dr Prod.fst l){f:Fl}(hf:f∈l):aF l f.1=f.2:=by
 induction l with
 |nil=>cases hf
 |cons g l ih=>
  have a:=List.pairwise_cons.1 ha;rcases R_.1 hf with rfl|hf
  ·exact eQ _ _ _ ((aY _ _).2 rfl)
  rw[dp _ _ _ ((bS _ _).2 (a.1 f hf))];exact ih a.2 hf
theorem gp {l:List Fl}{q:ByteArray}(h:aF l q≠⟨#[]⟩):(q,aF l q)∈l:=by
 induction l with
 |nil=>exact absurd rfl h
 |cons f l ih=>
  by_cases e:f.1=q
  ·rw[eQ _ _ _ ((aY _ _).2 e)];rw[<-e];simp
  rw[dp _ _ _ ((bS _ _).2 e)] at h ⊢;exact List.mem_cons_of_mem _ (ih h)
theorem dU {l:List Fl}(ha:dr Prod.fst l)(hn:∀f∈l,f.2≠⟨#[]⟩)(f:Fl):f∈l↔aF l f.1=f.2/\f.2≠⟨#[]⟩:=by
 constructor
 ·intro h;exact⟨dN ha h,hn f h⟩
 rintro⟨h,a⟩;have:=gp (l:=l) (q:=f.1) (by rw[h];exact a);rw[h] at this;exact this
def fi (l:List Fl):Prop:=l.Pairwise λa b=>a.1.data.toList<b.1.data.toList
theorem fi.apart {l:List Fl}(h:fi l):dr Prod.fst l:=h.imp fun {a b} hlt e=>by rw[e] at hlt;exact List.lt_irrefl _ hlt
def fE (l:List Fl)(g:ByteArray->ByteArray):Prop:=fi l/\(∀f∈l,f.2≠⟨#[]⟩)/\∀q,aF l q=g q
theorem fE.mem {l:List Fl}(h:fE l g)(f:Fl):f∈l↔g f.1=f.2/\f.2≠⟨#[]⟩:=by
 rw[dU h.1.apart h.2.1,h.2.2]
theorem dr.nodup {l:List Fl}(h:dr Prod.fst l):l.Nodup:=List.Pairwise.imp (λhne e=>hne (by rw[e])) h
theorem fE.unique {l l':List Fl}(h:fE l g)(h':fE l' g):l=l':=by
 have c:=(List.perm_ext_iff_of_nodup h.1.apart.nodup h'.1.apart.nodup).2 λf=>by rw[h.mem,h'.mem]
 exact List.Perm.eq_of_pairwise (λa b _ _ h1 h2=>absurd (List.lt_trans h1 h2) (List.lt_irrefl _)) h.1 h'.1 c
theorem iJ {l:List Fl}(hr:fi l)(hm:∀f,f∈l↔g f.1=f.2/\f.2≠⟨#[]⟩):fE l g:=by
 refine⟨hr,λf hf=>((hm f).1 hf).2,λq=>?_⟩;by_cases h:g q=⟨#[]⟩
 ·rw[h];refine gX λf hf e=>?_;have:=(hm f).1 hf;rw[e,h] at this;exact this.2 this.1.symm
 exact dN hr.apart ((hm (q,g q)).2 ⟨rfl,h⟩)
def upd (g:ByteArray->ByteArray)(q b:ByteArray):ByteArray->ByteArray:=λx=>if q.toList==x.toList then b else g x
theorem mm (g:ByteArray->ByteArray)(q b:ByteArray):upd g q b q=b:=by simp[upd]
theorem iZ (g:ByteArray->ByteArray){q x:ByteArray}(b:ByteArray)(h:q≠x):upd g q b x=g x:=by
 unfold upd;rw[(bS q x).2 h];rfl
def ck (g:ByteArray->ByteArray)(es:List Ed):ByteArray->ByteArray:=es.foldl (λg e=>upd g e.1 e.2.2) g
theorem qO (g:ByteArray->ByteArray)(es:List Ed)(e:Ed):ck g (es++[e])=upd (ck g es) e.1 e.2.2:=by simp[ck,List.foldl_append]
theorem gV {es:List Ed}{q:ByteArray}(h:∀e∈es,e.1≠q):ck g es q=g q:=by
 induction es generalizing g with
 |nil=>rfl
 |cons e es ih=>
  show ck (upd g e.1 e.2.2) es q=g q;rw[ih λx hx=>h x (by simp[hx])];exact iZ _ _ (h e (by simp))
theorem gY {es:List Ed}(ha:dr Prod.fst es){e:Ed}(he:e∈es):ck g es e.1=e.2.2:=by
 induction es generalizing g with
 |nil=>cases he
 |cons x es ih=>
  have a:=List.pairwise_cons.1 ha;show ck (upd g x.1 x.2.2) es e.1=e.2.2;rcases R_.1 he with rfl|he
  ·rw[gV λy hy=>(a.1 y hy).symm];exact mm _ _ _
  exact ih a.2 he
def cB {α:Type}(ok:α->Bool)(key:α->ByteArray)(l:List α):Prop:=(∀x∈l,ok x=true)/\dr key l
theorem cB.nil (ok:α->Bool)(key:α->ByteArray):cB ok key []:=⟨by simp,List.Pairwise.nil⟩
theorem i4 {l:List α}(hk:k<l.length):
 cB ok key (l.take (k+1))↔cB ok key (l.take k)/\ok l[k]=true/\∀j (h:j<k),key (l[j]'(by omega))≠key l[k]:=by
 rw[g_ hk];unfold cB dr;rw[List.pairwise_append];constructor
 ·rintro⟨c,d,_,e⟩;refine⟨⟨λx hx=>c x (List.mem_append_left _ hx),d⟩,c _ (List.mem_append_right _ (o_.2 rfl)),λj f=>e _ ?_ _ (by simp)⟩;rw[Q_];exact⟨j,by rw[l_];omega,by rw[List.getElem_take]⟩
 rintro⟨⟨c,d⟩,e,g⟩;refine⟨λx hx=>?_,d,by simp,λa ha b hb=>?_⟩
 ·rcases E_.1 hx with h|h
  ·exact c x h
  rw[o_.1 h];exact e
 rw[o_.1 hb];obtain⟨j,f,rfl⟩:=Q_.1 ha;rw[l_] at f;rw[List.getElem_take];exact g j (by omega)
def fh (s:ByteArray):Bool:=decide (s.size<=8)
def cQ (s:ByteArray):Bool:= !s.toList.isEmpty&&fh s
def dy (f:Fl):Bool:=cQ f.1&&cQ f.2
def jr (p o n:ByteArray):Bool:=cQ p&&fh o&&fh n&& !(o.toList==n.toList)
def iI (e:Ed):Bool:=jr e.1 e.2.1 e.2.2
theorem jw (s:ByteArray):fh s=true↔s.size<=8:=by simp[fh]
theorem ju (s:ByteArray):cQ s=true↔1<=s.size/\s.size<=8:=by
 unfold cQ;rw[Bool.and_eq_true,jw,Bool.not_eq_true',<-Bool.not_eq_true,List.isEmpty_iff,Lib.toList_data,Lib.size_eq]
 have:¬s.data.toList=[]↔1<=s.data.toList.length:=by
  rw[<-ne_eq,<-S_];exact Iff.rfl
 rw[this]
theorem dz (f:Fl):dy f=true↔(1<=f.1.size/\f.1.size<=8)/\1<=f.2.size/\f.2.size<=8:=by
 unfold dy;rw[Bool.and_eq_true,ju,ju]
theorem iK (e:Ed):iI e=true↔(1<=e.1.size/\e.1.size<=8)/\e.2.1.size<=8/\e.2.2.size<=8/\e.2.1≠e.2.2:=by
 unfold iI jr;rw[Bool.and_eq_true,Bool.and_eq_true,Bool.and_eq_true,ju,jw,jw,Bool.not_eq_true',bS,and_assoc,and_assoc]
variable{l:List Fl}{base:Nat}{row:Option Nat}{e:TypeId}{v:Value}{w w':World}
def cD (e:Ending)(p:Prop):Prop:=∃r:Bool,e=.returned (.bool r)/\(r=true↔p)
theorem cD.yes {p:Prop}(h:p):cD (.returned (.bool true)) p:=⟨true,rfl,⟨λ_=>h,λ_=>rfl⟩⟩
theorem cD.no {p:Prop}(h:¬p):cD (.returned (.bool false)) p:=⟨false,rfl,⟨λx=>Bool.noConfusion x,λx=>absurd x h⟩⟩
def de (w w':World):Prop:=∃n,w'=w.drewN n
theorem de.refl (w:World):de w w:=⟨0,rfl⟩
theorem de.one (w:World)(n:Nat):de w (w.drewN n):=⟨n,rfl⟩
theorem de.two (w:World)(n m:Nat):de w ((w.drewN n).drewN m):=⟨n+m,by simp⟩
theorem de.three (w:World)(n m o:Nat):de w (((w.drewN n).drewN m).drewN o):=⟨n+m+o,by simp⟩
theorem de.below (h:de w w'):Bl w w':=by
 obtain⟨n,rfl⟩:=h;exact⟨rfl,rfl,rfl,b_ _,λ_ _=>rfl⟩
def cF (f:Fl):List Value:=[.string f.1,.string f.2]
def cE (e:Ed):List Value:=[.string e.1,.string e.2.1,.string e.2.2]
def ay (w:World)(v:Value)(l:List Fl):Prop:=
 (l=[]/\∃a cap,v=.slice a 0 cap)\/
 ∃b off cap,v=.slice (some ⟨b,off,none⟩) l.length cap/\b<w.heap.size/\
  (∀i (h:i<l.length),w.cell? ⟨b,off+i*2,none⟩=some (.string l[i].1))/\
  (∀i (h:i<l.length),w.cell? ⟨b,off+i*2+1,none⟩=some (.string l[i].2))
def aH (w:World)(v:Value)(l:List Ed):Prop:=
 (l=[]/\∃a cap,v=.slice a 0 cap)\/
 ∃b off cap,v=.slice (some ⟨b,off,none⟩) l.length cap/\b<w.heap.size/\
  (∀i (h:i<l.length),w.cell? ⟨b,off+i*3,none⟩=some (.string l[i].1))/\
  (∀i (h:i<l.length),w.cell? ⟨b,off+i*3+1,none⟩=some (.string l[i].2.1))/\
  (∀i (h:i<l.length),w.cell? ⟨b,off+i*3+2,none⟩=some (.string l[i].2.2))
theorem ay.kept (h:ay w v l)(hs:w.heap.size<=w'.heap.size)(hb:∀k,v.ownBlock=some k->k<w.heap.size->w'.heap[k]? =w.heap[k]?):ay w' v l:=by
 rcases h with h|⟨b,d,c,rfl,a,f,g⟩
 ·exact .inl h
 have e:=hb b rfl a;exact .inr ⟨b,d,c,rfl,h_ a hs,λi h=>(L_ (w:=w) e).trans (f i h),λi h=>(L_ (w:=w) e).trans (g i h)⟩
theorem aH.kept {l:List Ed}(h:aH w v l)(hs:w.heap.size<=w'.heap.size)(hb:∀k,v.ownBlock=some k->k<w.heap.size->w'.heap[k]? =w.heap[k]?):aH w' v l:=by
 rcases h with h|⟨b,d,c,rfl,a,f,g,j⟩
 ·exact .inl h
 have e:=hb b rfl a;exact .inr ⟨b,d,c,rfl,h_ a hs,λi h=>(L_ (w:=w) e).trans (f i h),λi h=>(L_ (w:=w) e).trans (g i h),λi h=>(L_ (w:=w) e).trans (j i h)⟩
theorem ay.later (h:ay w v l)(hb:Bl w w'):ay w' v l:=h.kept hb.size λk _ hk=>hb.block k hk
theorem aH.later {l:List Ed}(h:aH w v l)(hb:Bl w w'):aH w' v l:=h.kept hb.size λk _ hk=>hb.block k hk
theorem ay.grown (h:ay w v l)(hg:w.grownBy w' row)(hne:v.ownBlock=none\/v.ownBlock≠row):ay w' v l:=
 h.kept hg.size λk hk hlt=>hg.block k hlt (by rcases hne with h|h<;>simp_all)
theorem aH.grown {l:List Ed}(h:aH w v l)(hg:w.grownBy w' row)(hne:v.ownBlock=none\/v.ownBlock≠row):aH w' v l:=
 h.kept hg.size λk hk hlt=>hg.block k hlt (by rcases hne with h|h<;>simp_all)
theorem aq (enc:α->List Value)(k:Nat)(hk:∀x,(enc x).length=k):∀(l:List α) (i j:Nat) (h:i<l.length),j<k->(l.flatMap enc)[i*k+j]? =(enc l[i])[j]?
 |[],_,_,h,_=>by simp at h
 |x::l,0,j,_,hj=>by simp[V_ (show j<(enc x).length by rw[hk];exact hj)]
 |x::l,i+1,j,h,hj=>by
  have e:(i+1)*k+j=(enc x).length+(i*k+j):=by rw[hk];rw[Nat.add_mul];omega
  rw[F_,e,List.getElem?_append_right (by omega),Nat.add_sub_cancel_left]
  exact aq enc k hk l i j (by simpa using h) hj
theorem aR (enc:α->List Value)(k:Nat)(hk:∀x,(enc x).length=k):∀l:List α,(l.flatMap enc).length=l.length*k
 |[]=>by simp
 |x::l=>by rw[F_,a_,hk,aR enc k hk l,List.length_cons,Nat.add_mul];omega
theorem bE (g n:Nat):(⟨g,0,none⟩:Addr).add n=⟨g,0+n,none⟩:=by
 unfold Addr.add;by_cases h:n=0
 ·subst h;simp
 simp[h]
theorem ay.of_row (h:w.ownsRow base e 2 v l.length (l.flatMap cF)):ay w v l:=by
 rcases h.2 with ⟨rfl,d⟩|⟨g,a,c,rfl,j,f,_⟩
 ·exact .inl ⟨List.length_eq_zero_iff.1 d,_,_,rfl⟩
 have b:=h.cells (g:=g) rfl;refine .inr ⟨g,0,a,rfl,(j_.1 f).1,λi hi=>?_,λi hi=>?_⟩
 ·have:=b (i*2+0) (.string l[i].1) (by rw[aq cF 2 (λ_=>rfl) l i 0 hi (by omega)];rfl);simpa[bE] using this
 have:=b (i*2+1) (.string l[i].2) (by rw[aq cF 2 (λ_=>rfl) l i 1 hi (by omega)];rfl);simpa[bE] using this
theorem aH.of_row {l:List Ed}(h:w.ownsRow base e 3 v l.length (l.flatMap cE)):aH w v l:=by
 rcases h.2 with ⟨rfl,d⟩|⟨g,a,c,rfl,j,f,_⟩
 ·exact .inl ⟨List.length_eq_zero_iff.1 d,_,_,rfl⟩
 have b:=h.cells (g:=g) rfl;refine .inr ⟨g,0,a,rfl,(j_.1 f).1,λi hi=>?_,λi hi=>?_,λi hi=>?_⟩
 ·have:=b (i*3+0) (.string l[i].1) (by rw[aq cE 3 (λ_=>rfl) l i 0 hi (by omega)];rfl);simpa[bE] using this
 ·have:=b (i*3+1) (.string l[i].2.1) (by rw[aq cE 3 (λ_=>rfl) l i 1 hi (by omega)];rfl);simpa[bE] using this
 have:=b (i*3+2) (.string l[i].2.2) (by rw[aq cE 3 (λ_=>rfl) l i 2 hi (by omega)];rfl);simpa[bE] using this
def be:Nat->Nat->List UInt8
 |0,_=>[]
 |k+1,n=>be k (n/256)++[UInt8.ofNat (n%256)]
theorem aC:∀k n,(be k n).length=k
 |0,_=>rfl
 |k+1,n=>by rw[be,a_,aC k];rfl
theorem lZ (k n:Nat):be (k+1) n=be k (n/256)++[UInt8.ofNat (n%256)]:=rfl
theorem pC:∀k n,be (k+1) n=UInt8.ofNat (n/256^k%256)::be k n
 |0,n=>by simp[be]
 |k+1,n=>by
  rw[lZ,pC k (n/256),lZ k n,Nat.div_div_eq_div_mul,List.cons_append,Nat.pow_succ,Nat.mul_comm (256^k) 256]
def bs (l:List UInt8):ByteArray:=⟨l.toArray⟩
theorem bh (l:List UInt8):(bs l).size=l.length:=rfl
theorem bo (l m:List UInt8):bs l++bs m=bs (l++m):=by
 apply ByteArray.ext;rw[ByteArray.data_append];simp[bs]
theorem uS (s:ByteArray):bs s.data.toList=s:=rfl
theorem lY (l:List UInt8):(bs l).data.toList=l:=by simp[bs]
def txt (s:ByteArray):List UInt8:=be 1 s.size++s.data.toList
def edB (e:Ed):List UInt8:=txt e.1++txt e.2.1++txt e.2.2
def adl (ab:Nat×Nat)(x:UInt8):Nat×Nat:=((ab.1+x.toNat)%65521,(ab.2+(ab.1+x.toNat)%65521)%65521)
def fj (l:List UInt8):Nat×Nat:=l.foldl adl (1,0)
def bO (l:List UInt8):Nat:=(fj l).2*65536+(fj l).1
theorem kD (l:List UInt8)(x:UInt8):fj (l++[x])=adl (fj l) x:=by simp[fj]
theorem BU {ab:Nat×Nat}(x:UInt8):(adl ab x).1<65521/\(adl ab x).2<65521:=⟨Nat.mod_lt _ (by decide),Nat.mod_lt _ (by decide)⟩
theorem pD (l:List UInt8):(fj l).1<65521/\(fj l).2<65521:=by
 rcases List.eq_nil_or_concat l with rfl|⟨m,x,rfl⟩
 ·exact⟨by decide,by decide⟩
 rw[List.concat_eq_append,kD];exact BU x
theorem iL (l:List UInt8):bO l<2^32:=by
 have:=pD l;unfold bO;omega
structure Rc where
 kind:Nat
 lane:Nat
 num:Nat
 pass:Bool
 edits:List Ed
def Rc.body (r:Rc):List UInt8:=
 (if r.kind=1 then be 1 r.lane++be 1 r.edits.length++r.edits.flatMap edB else [])++
 (if r.kind=4 then be 1 (if r.pass then 1 else 0) else [])++
 (if r.kind≠3/\r.kind≠7 then be 8 r.num else [])
def Rc.head (r:Rc):List UInt8:=be 1 r.kind++be 4 r.body.length++r.body
def Rc.bytes (r:Rc):List UInt8:=r.head++be 4 (bO r.head)
variable{es:List Ed}{xs:List Value}{b n:Nat}
theorem l7 {o:Nat}(h:w.cell? ⟨b,o,none⟩=some v):b<w.heap.size:=by
 by_cases hb:b<w.heap.size
 ·exact hb
 have:w.heap[b]? =none:=Array.getElem?_eq_none (by omega);simp[World.cell?,this] at h
theorem bH {o:Nat}(hb:Bl w w')(h:w.cell? ⟨b,o,none⟩=some v):w'.cell? ⟨b,o,none⟩=some v:=
 (L_ (w:=w) (hb.block b (l7 h))).trans h
theorem bF {o:Nat}(hb:Bl w w')(hl:b<w.heap.size)(h:w.frozen? ⟨b,o,none⟩=false):w'.frozen? ⟨b,o,none⟩=false:=by
 rw[<-h];have:=hb.block b hl;simp[World.frozen?,this]
def du (w:World)(g n k:Nat)(es:List Ed):Prop:=
 g<w.heap.size/\(∀j,j<n*3->(∃v,w.cell? ⟨g,j,none⟩=some v)/\w.frozen? ⟨g,j,none⟩=false)/\
 ∀i (h:i<es.length),i<k->w.cell? ⟨g,i*3,none⟩=some (.string es[i].1)/\w.cell? ⟨g,i*3+1,none⟩=some (.string es[i].2.1)/\w.cell? ⟨g,i*3+2,none⟩=some (.string es[i].2.2)
theorem du.later {g:Nat}(h:du w g n k es)(hb:Bl w w'):du w' g n k es:=by
 refine⟨h_ h.1 hb.size,λj hj=>⟨?_,bF hb h.1 (h.2.1 j hj).2⟩,λi hi hk=>?_⟩
 ·obtain⟨v,d⟩:=(h.2.1 j hj).1;exact⟨v,bH hb d⟩
 obtain⟨a,b,c⟩:=h.2.2 i hi hk;exact⟨bH hb a,bH hb b,bH hb c⟩
theorem du.set {g:Nat}(h:du w g n k es)(hk:k<es.length)(hn:es.length=n):
 du (((w.setCell ⟨g,k*3,none⟩ (.string es[k].1)).setCell ⟨g,k*3+1,none⟩ (.string es[k].2.1)).setCell ⟨g,k*3+2,none⟩ (.string es[k].2.2)) g n (k+1) es:=by
 obtain⟨l,b,hd⟩:=h;have a:∀{i j:Nat},i≠j->(⟨g,i,none⟩:Addr)≠⟨g,j,none⟩:=λh e=>h (by injection e);refine⟨by simpa[World.setCell] using l,λj hj=>⟨?_,?_⟩,λi hi hik=>?_⟩
 ·obtain⟨v,m⟩:=(b j hj).1;obtain⟨o,c⟩:=cell?_setCell_some (p:=⟨g,k*3,none⟩) (x:=.string es[k].1) m;obtain⟨q,d⟩:=cell?_setCell_some (p:=⟨g,k*3+1,none⟩) (x:=.string es[k].2.1) c;exact cell?_setCell_some d
 ·rw[World.frozen?_setCell,World.frozen?_setCell,World.frozen?_setCell];exact(b j hj).2
 by_cases e:i=k
 ·subst e;obtain⟨r,f⟩:=(b (i*3) (by omega)).1;obtain⟨o,c⟩:=(b (i*3+1) (by omega)).1;obtain⟨q,d⟩:=(b (i*3+2) (by omega)).1;refine⟨?_,?_,?_⟩
  ·rw[H_ _ _ _ _ (a (by omega)),H_ _ _ _ _ (a (by omega))];exact World.cell?_setCell_same _ _ _ f
  ·rw[H_ _ _ _ _ (a (by omega))];exact World.cell?_setCell_same _ _ _ ((H_ _ _ _ _ (a (by omega))).trans c)
  exact World.cell?_setCell_same _ _ _ ((H_ _ _ _ _ (a (by omega))).trans ((H_ _ _ _ _ (a (by omega))).trans d))
 obtain⟨f,c,d⟩:=hd i hi (by omega);refine⟨?_,?_,?_⟩
 all_goals
  rw[H_ _ _ _ _ (a (by omega)),H_ _ _ _ _ (a (by omega)),H_ _ _ _ _ (a (by omega))];assumption
theorem du.made {g:Nat}(h:w.ownsRow base e 3 (.slice (some ⟨g,0,none⟩) n n) n xs):du w g n 0 es:=by
 rcases h.2 with ⟨a,_⟩|⟨q,d,b,p,r,c,m,f,k,o⟩
 ·cases a
 cases p
 have l:g<w.heap.size:=(j_.1 c).1;refine⟨l,λj hj=>⟨⟨b[j]'(by omega),?_⟩,?_⟩,λi _ h=>by omega⟩
 ·simp[World.cell?,c]
 simp[World.frozen?,c]
variable{B i:Nat}{o:Obj}{w1:World}
theorem aP {o:Nat}(h:w.cell? ⟨b,o,none⟩=some v):b<w.heap.size:=by
 by_cases hb:b<w.heap.size
 ·exact hb
 have:w.heap[b]? =none:=Array.getElem?_eq_none (by omega);simp[World.cell?,this] at h
theorem ae {o:Nat}(hb:Bl w w')(h:w.cell? ⟨b,o,none⟩=some v):w'.cell? ⟨b,o,none⟩=some v:=
 (L_ (w:=w) (hb.block b (aP h))).trans h
theorem pE (w:World)(v:Value)(t:TypeId):(w.alloc (.cells #[v] t)).cell? ⟨w.heap.size,0,none⟩=some v:=by simp
theorem g7 (hb:Below w.drew.heap.size w.drew w1):Bl w w1:=⟨hb.os,hb.tape,hb.output,hb.size,hb.block⟩
theorem gC (hb:Below (w.alloc o).heap.size (w.alloc o) w1):Bl w w1:=((n_ _ _).alloc (b_ _) o).trans (hb.mono (by simp))
theorem jo (hb:Below (w.alloc o).drew.heap.size (w.alloc o).drew w1):Bl w w1:=gC (g7 hb)
theorem nV (hb:Below w.drew.heap.size w.drew w1)(o:Obj):Bl w (w1.alloc o):=(g7 hb).alloc hb.size o
theorem vK (w:World)(g:Nat)(b:UInt8)(h:w.cell? ⟨g,0,none⟩=some (.int .u8 b.toNat)):(convert 114 9 (s_ g 0 1 1)).run prog w=.ok (.string (bs [b])) w:=by
 refine run_convert_bytes_back (P:=prog) _ _ _ 5 ⟨g,0,none⟩ 1 [b] underlying114 (by kernel_rfl) (by kernel_rfl) λj hj=>?_;have:j=0:=by simpa using hj
 subst this;rw[bE];simpa using h
theorem wrap_i64 {n:Int}(h:-9223372036854775808<=n)(h':n<9223372036854775808):IntKind.i64.wrap n=n:=by
 simp[IntKind.wrap,IntKind.bits,IntKind.signed];omega
theorem Ai {n:Int}(h:0<=n)(h':n<256):IntKind.u8.wrap n=n:=by
 simp[IntKind.wrap,IntKind.bits,IntKind.signed];omega
theorem gA {n:Int}(h:0<=n)(h':n<18446744073709551616):IntKind.u64.wrap n=n:=by
 simp[IntKind.wrap,IntKind.bits,IntKind.signed];omega
theorem jT (h:n<256):((UInt8.ofNat n).toNat:Int)=n:=by
 rw[UInt8.toNat_ofNat'];omega
theorem eS:∀(k n:Nat) (w:World),n<9223372036854775808->k<64->
 c_ 180 #[I n,I k] w λe w'=>e=.returned (.string (bs (be k n)))/\Bl w w'
 |0,n,w,_,_=>by
  go_enter func180,ntmps180
  go_wp2
  go_ret
  exact⟨rfl,n_ _ _⟩
 |k+1,n,w,hn,hk=>by
  have e1:((n/256:Nat):Int)=(n:Int)/256:=by omega
  have b:((n%256:Nat):Int)=(n:Int)%256:=by omega
  have f:IntKind.i64.wrap ((n:Int)/256)=(n:Int)/256:=wrap_i64 (by omega) (by omega)
  have i:IntKind.i64.wrap (k:Int)=k:=wrap_i64 (by omega) (by omega)
  have q:(n:Int).tmod 256=(n:Int)%256:=Int.tmod_eq_emod_of_nonneg (by omega)
  have j:IntKind.u8.wrap ((n:Int)%256)=(n:Int)%256:=Ai (by omega) (by omega)
  have l:∀w',c_ 180 #[I ((n:Int)/256),I k] w' λe w''=>e=.returned (.string (bs (be k (n/256))))/\Bl w' w'':=λw'=>by
   rw[<-e1];exact eS k (n/256) w' (by omega) (by omega)
  have p:∀(w:World) (g:Nat),w.cell? ⟨g,0,none⟩=some (.int .u8 ((n:Int)%256))->(convert 114 9 (s_ g 0 1 1)).run prog w=.ok (.string (bs [UInt8.ofNat (n%256)])) w:=λw g h=>vK w g _ (by
   rw[h,jT (by omega),b])
  have c:(bs (be k (n/256))).size=k:=by rw[bh,aC]
  have d:(bs [UInt8.ofNat (n%256)]).size=1:=rfl
  clear e1 b
  go_enter func180,ntmps180
  go_wp2
  go_region_held_law (λ_=>True) (go_keep) ((go_at_call 180;go_fit (l _);rintro e m ⟨rfl,a⟩;try (have o:m.cell? ⟨w.heap.size,0,none⟩=some (.int .u8 ((n:Int)%256)):=ae a (pE w.drew _ _))))
  all_goals
   go_wp2
   go_ret
   refine⟨by rw[lZ,<-bo];rfl,?_⟩
   first
    |exact jo a
    |exact nV a _
theorem mn (s:ByteArray)(w:World)(hs:s.size<9223372036854775000):
 c_ 181 #[.string s] w λe w'=>e=.returned (.string (bs (txt s)))/\Bl w w':=by
 have a:=eS 1 s.size w (by omega) (by omega);have c:(bs (be 1 s.size)).size=1:=by rw[bh,aC]
 go_enter func181,ntmps181;go_wp2_with (go_at_call 180;go_fit a;rintro e d ⟨rfl,b⟩);go_ret;exact⟨by rw[txt,<-bo,uS];rfl,b⟩
theorem gB {n:Int}(h:-9223372036854775808<=n)(h':n<9223372036854775808):wrap64 n=n:=by unfold wrap64;omega
theorem Aj {A:Nat}(x:UInt8)(hA:A<65521):(wrap64 ((A:Int)+wrap64 (x.toNat:Int))).tmod 65521=(((A+x.toNat)%65521:Nat):Int):=by
 have a:=x.toNat_lt;rw[gB (n:=(x.toNat:Int)) (by omega) (by omega),gB (by omega) (by omega),Int.tmod_eq_emod_of_nonneg (by omega)];omega
theorem Ah {C:Nat}(hB:B<65521)(hC:C<65521):(wrap64 ((B:Int)+(C:Int))).tmod 65521=(((B+C)%65521:Nat):Int):=by
 rw[gB (by omega) (by omega),Int.tmod_eq_emod_of_nonneg (by omega)];omega
theorem xA {s:ByteArray}(h:i<s.size):fj (s.data.toList.take (i+1))=adl (fj (s.data.toList.take i)) s[i]:=by
 have a:i<s.data.toList.length:=by simpa using h
 rw[g_ a,kD];rfl
theorem gZ (s:ByteArray)(w:World)(hs:s.size<9223372036854775000):
 c_ 182 #[.string s] w λe w'=>e=.returned (I (bO s.data.toList))/\w'=w:=by
 go_enter func182,ntmps182;go_wp2;go_loop [3,4,5] (λa b i=>∃k:Nat,k<=s.size/\i=I k/\a=I (fj (s.data.toList.take k)).1/\b=I (fj (s.data.toList.take k)).2) (λ_ _ i=>s.size-(intOf i).toNat)
 case atStart=>exact⟨0,k_ _,rfl,rfl,rfl⟩
 obtain⟨k,j,rfl,rfl,rfl⟩:=hrel;have c:=pD (s.data.toList.take k);by_cases hlk:k<s.size
 ·have d:=xA hlk;have f:=Aj s[k] c.1;have g:=Ah c.2 (Nat.mod_lt ((fj (s.data.toList.take k)).1+s[k].toNat) (by decide:65521>0));go_wp2;refine⟨⟨k+1,hlk,by go_num,?_,?_⟩,by simp[intOf];omega⟩
  ·rw[d];simp[adl]
  rw[d];simp[adl]
 obtain rfl:k=s.size:=by omega
 have e:s.data.toList.take s.size=s.data.toList:=m_ (by simp);rw[e] at c ⊢
 have h:wrap64 (wrap64 (((fj s.data.toList).2:Int)*65536)+((fj s.data.toList).1:Int))=(bO s.data.toList:Int):=by
  unfold bO;rw[gB (n:=((fj s.data.toList).2:Int)*65536) (by omega) (by omega),gB (by omega) (by omega)];omega
 go_wp2;go_ret;exact⟨by rw[show (bO s.data.toList:Int)=((fj s.data.toList).2:Int)*65536+((fj s.data.toList).1:Int) by simp[bO]];rfl,rfl⟩
def up (f:Int->Int):Nat->Int
 |0=>1
 |k+1=>f (up f k)
def f8 (x:Int):Int:=x*2%256
def f32 (x:Int):Int:=x*2%4294967296
def f64 (x:Int):Int:=wrap64 (x*2)
theorem up8:∀k,k<8->(up f8 k !=0)=true:=by decide
theorem EL:∀k,k<32->(up f32 k !=0)=true:=by decide
theorem EK:∀k,k<64->(up f64 k !=0)=true:=by decide+kernel
theorem BG (w:World):c_ 200 #[] w λe w'=>e=.returned (I 8)/\w=w':=by
 go_enter func200,ntmps200;go_wp2;go_loop [1,2] (λb o=>∃k:Nat,k<=8/\b=I k/\o=.int .u8 (up f8 k)) (λb _=>8-(intOf b).toNat)
 case atStart=>exact⟨0,by omega,rfl,rfl⟩
 obtain⟨k,d,rfl,rfl⟩:=hrel;by_cases hlk:k<8
 ·have c:=up8 k hlk;have a:Hid (up f8 (k+1)=f8 (up f8 k)):=rfl;generalize up f8 k=x at c a;go_wp2;refine⟨⟨k+1,hlk,by go_num,?_⟩,by simp[intOf];omega⟩;rw[a.out];rfl
 obtain rfl:k=8:=by omega
 rw[show up f8 8=0 by decide+kernel];go_wp2;go_ret;exact⟨rfl,rfl⟩
theorem xC (w:World):c_ 201 #[] w λe w'=>e=.returned (I 32)/\w=w':=by
 go_enter func201,ntmps201;go_wp2;go_loop [1,2] (λb o=>∃k:Nat,k<=32/\b=I k/\o=.int .u32 (up f32 k)) (λb _=>32-(intOf b).toNat)
 case atStart=>exact⟨0,by omega,rfl,rfl⟩
 obtain⟨k,d,rfl,rfl⟩:=hrel;by_cases hlk:k<32
 ·have c:=EL k hlk;have a:Hid (up f32 (k+1)=f32 (up f32 k)):=rfl;generalize up f32 k=x at c a;go_wp2;refine⟨⟨k+1,hlk,by go_num,?_⟩,by simp[intOf];omega⟩;rw[a.out];rfl
 obtain rfl:k=32:=by omega
 rw[show up f32 32=0 by decide+kernel];go_wp2;go_ret;exact⟨rfl,rfl⟩
theorem xB (w:World):c_ 238 #[] w λe w'=>e=.returned (I 64)/\w=w':=by
 go_enter func238,ntmps238;go_wp2;go_loop [1,2] (λb o=>∃k:Nat,k<=64/\b=I k/\o=I (up f64 k)) (λb _=>64-(intOf b).toNat)
 case atStart=>exact⟨0,by omega,rfl,rfl⟩
 obtain⟨k,d,rfl,rfl⟩:=hrel;by_cases hlk:k<64
 ·have c:=EK k hlk;have a:Hid (up f64 (k+1)=f64 (up f64 k)):=rfl;generalize up f64 k=x at c a;go_wp2;refine⟨⟨k+1,hlk,by go_num,?_⟩,by simp[intOf];omega⟩;rw[a.out];rfl
 obtain rfl:k=64:=by omega
 rw[show up f64 64=0 by decide+kernel];go_wp2;go_ret;exact⟨rfl,rfl⟩
variable{w2:World}
theorem eU (n:Nat)(w:World)(hn:n<9223372036854775808):c_ 180 #[I n,I 1] w λe w'=>e=.returned (.string (bs (be 1 n)))/\Bl w w':=eS 1 n w hn (by decide)
theorem eT (n:Nat)(w:World)(hn:n<9223372036854775808):c_ 180 #[I n,I 4] w λe w'=>e=.returned (.string (bs (be 4 n)))/\Bl w w':=eS 4 n w hn (by decide)
theorem mr (n:Nat)(w:World)(hn:n<9223372036854775808):c_ 180 #[I n,I 8] w λe w'=>e=.returned (.string (bs (be 8 n)))/\Bl w w':=eS 8 n w hn (by decide)
theorem aK (h:Bl w w1)(h2:Bl w1 w2):Bl w w2:=h.trans (h2.mono h.size)
def Al (r:Rc)(ev:Value):Value:=.agg #[I r.kind,I r.lane,I r.num,.bool r.pass,ev]
theorem jx (kind lane num:Nat)(pass:Bool)(ev:Value)(w:World)(hk:kind=2\/kind=5\/kind=6)(hnum:num<9223372036854775808)(s:List UInt8)(hs:s=be 1 kind++be 4 8++be 8 num):
 c_ 132 #[.agg #[I kind,I lane,I num,.bool pass,ev]] w λe w'=>e=.returned (.string (bs (s++be 4 (bO s))))/\Bl w w':=by
 have q:((kind:Int)==1)=false:=by simp;omega
 have t:((kind:Int)==4)=false:=by simp;omega
 have r:((kind:Int)==3)=false:=by simp;omega
 have u:((kind:Int)==7)=false:=by simp;omega
 have v:((kind:Int) !=3)=true:=by simp;omega
 have x:((kind:Int) !=7)=true:=by simp;omega
 have D:(bs (be 8 num)).size=8:=by rw[bh,aC]
 have A:(bs (be 1 kind)).size=1:=by rw[bh,aC]
 have B:∀n,(bs (be 4 n)).size=4:=λn=>by rw[bh,aC]
 have k:(({data:=#[]}:ByteArray)++bs (be 8 num))=bs (be 8 num):=bo [] _;have l:bs (be 1 kind)++bs (be 4 8)=bs (be 1 kind++be 4 8):=bo _ _;have m:bs (be 1 kind++be 4 8)++bs (be 8 num)=bs s:=by rw[hs];exact bo _ _
 have o:bs s++bs (be 4 (bO s))=bs (s++be 4 (bO s)):=bo _ _;have C:(bs (be 1 kind++be 4 8)).size=5:=by rw[bh,a_,aC,aC]
 have f:(bs s).size=13:=by rw[hs,bh,a_,a_,aC,aC,aC]
 have h:∀w,c_ 182 #[.string (bs s)] w λe w'=>e=.returned (I (bO s))/\w'=w:=λw=>by
  have:=gZ (bs s) w (by rw[f];decide);rwa [lY] at this
 have p:=iL s;clear hs;go_enter func132,ntmps132
 go_wp2_with (first
  |(go_at_call 180;go_fit (mr num _ hnum);rintro e g ⟨rfl,a⟩;have j:g.cell? ⟨w.heap.size,0,none⟩=some (I kind):=ae a (by simp))
  |(go_at_call 180;go_fit (eU kind g (by omega));rintro e i ⟨rfl,b⟩)
  |(go_at_call 180;go_fit (eT 8 i (by omega));rintro e y ⟨rfl,c⟩)
  |(go_at_call 182;go_fit (h _);rintro e w' ⟨rfl,rfl⟩)
  |(go_at_call 180;go_fit (eT (bO s) _ (by omega));rintro e z ⟨rfl,d⟩))
 go_ret;exact⟨rfl,aK (aK (aK (gC a) b) c) d⟩
theorem lz (kind lane num:Nat)(pass:Bool)(ev:Value)(w:World)(hk:kind=3\/kind=7)(s:List UInt8)(hs:s=be 1 kind++be 4 0):
 c_ 132 #[.agg #[I kind,I lane,I num,.bool pass,ev]] w λe w'=>e=.returned (.string (bs (s++be 4 (bO s))))/\Bl w w':=by
 have k1:((kind:Int)==1)=false:=by simp;omega
 have k4:((kind:Int)==4)=false:=by simp;omega
 have z1:(bs (be 1 kind)).size=1:=by rw[bh,aC]
 have z4:∀n,(bs (be 4 n)).size=4:=λn=>by rw[bh,aC]
 have e2:bs (be 1 kind)++bs (be 4 0)=bs s:=by rw[hs];exact bo _ _
 have e1:bs s++({data:=#[]}:ByteArray)=bs s:=(bo s []).trans (by rw[T_]);have e3:bs s++bs (be 4 (bO s))=bs (s++be 4 (bO s)):=bo _ _;have z13:(bs s).size=5:=by rw[hs,bh,a_,aC,aC]
 have hS:∀w,c_ 182 #[.string (bs s)] w λe w'=>e=.returned (I (bO s))/\w'=w:=λw=>by
  have:=gZ (bs s) w (by rw[z13];decide);rwa [lY] at this
 have hA:=iL s;clear hs;rcases hk with rfl|rfl
 all_goals
  go_enter func132,ntmps132
  go_wp2_with (first
   |(go_at_call 180;(first|go_fit (eU 3 (w.alloc _) (by omega))|go_fit (eU 7 (w.alloc _) (by omega)));rintro e w2 ⟨rfl,hb2⟩)
   |(go_at_call 180;go_fit (eT 0 w2 (by omega));rintro e w3 ⟨rfl,hb3⟩)
   |(go_at_call 182;go_fit (hS _);rintro e w' ⟨rfl,rfl⟩)
   |(go_at_call 180;go_fit (eT (bO s) _ (by omega));rintro e w4 ⟨rfl,hb4⟩))
  go_ret;exact⟨rfl,aK (aK (gC hb2) hb3) hb4⟩
end
section
variable{xs ys:List Value}{base j m n:Nat}{o:Obj}{u v v':Value}{w w' wr:World}
def bc (l:List UInt8):List Value:=l.map λb=>.int .u8 b.toNat
theorem eF (l m:List UInt8):bc (l++m)=bc l++bc m:=by simp[bc]
theorem sV (l:List UInt8):∀v∈bc l,v.oneCell'=true:=by
 intro v hv;obtain⟨b,_,rfl⟩:=q_.1 hv;rfl
theorem g8:(prog.info? 5).map (λi=>(i.zero,i.size,i.bytes))=some (some (.int .u8 0),1,1):=by kernel_rfl
theorem pF:∀(K n j:Nat),j<K->(be K n).take (j+1)=(be K n).take j++[UInt8.ofNat (n/256^(K-1-j)%256)]
 |0,_,_,h=>by omega
 |K+1,n,0,_=>by rw[pC];simp
 |K+1,n,j+1,h=>by
  rw[pC,List.take_succ_cons,List.take_succ_cons,pF K n j (by omega),List.cons_append]
  congr 4
  rw[show K+1-1-(j+1)=K-1-j by omega]
theorem iM (w:World)(v:Value)(t:TypeId):∀j u,[v][j]? =some u->(w.alloc (.cells #[v] t)).cell? ((⟨w.heap.size,0,none⟩:Addr).add j)=some u:=by
 intro j u h
 have a:j=0:=by
  by_cases a:j=0
  ·exact a
  rw[List.getElem?_eq_none (by simp;omega)] at h;cases h
 subst a;obtain rfl:v=u:=by simpa using h
 rw[bE];simp
structure aL (base:Nat)(w w':World)(v v':Value)(n:Nat)(xs:List Value):Prop where
 row:w'.ownsRow base 5 1 v' n xs
 grown:w.grownBy w' v.ownBlock
 block:v'.ownBlock=v.ownBlock\/∃g,v'.ownBlock=some g/\w.heap.size<=g
theorem aL.refl (h:w.ownsRow base 5 1 v n xs):aL base w w v v n xs:=⟨h,World.grownBy.refl _ _,.inl rfl⟩
theorem aL.step (h:aL base w wr v u n xs)(hg:(wr.alloc o).grownBy w' u.ownBlock)(hr:w'.ownsRow base 5 1 v' m ys)(hb:v'.ownBlock=u.ownBlock\/v'.ownBlock=some (wr.alloc o).heap.size):aL base w w' v v' m ys:=by
 have b:=h.grown.size;have a:=v_ wr o none;refine⟨hr,⟨hg.os.trans h.grown.os,hg.tape.trans h.grown.tape,hg.output.trans h.grown.output,e_ (e_ b a.size) hg.size,λk hk hne=>?_⟩,?_⟩
 ·rw[hg.block k (h_ hk (e_ b a.size)) (λe=>?_),a.block k (h_ hk b) (by simp),h.grown.block k hk hne];rcases h.block with c|⟨g,c,d⟩
  ·exact hne (by rw[e,c])
  rw[c] at e;cases e;omega
 rcases hb with hb|hb
 ·rw[hb];exact h.block
 exact .inr ⟨_,hb,e_ b a.size⟩
theorem EM (n:Nat)(hn:n<256)(v:Value)(l:List UInt8)(base:Nat)(w:World)(hrow:w.ownsRow base 5 1 v l.length (bc l))(hbase:base<=w.heap.size)(hlen:l.length<1099511627776):
 Calls prog 160 #[v,.int .u8 n] w λe w'=>∃v',e=.returned v'/\aL base w w' v v' (l.length+1) (bc (l++be 1 n)):=by
 obtain⟨k,j,b,c,d⟩:=info_parts g8;have a:be 1 n=[UInt8.ofNat n]:=by simp[be,Nat.mod_eq_of_lt hn]
 have h:=jT hn;go_enter func160,ntmps160;go_wp2_with (go_at_call 200;go_fit (BG _);rintro e w' ⟨rfl,rfl⟩);go_loopw [0,5] (λbv lv wr=>(lv=I 0/\bv=v/\wr=w)\/(lv=I (-8)/\aL base w wr v bv (l.length+1) (bc (l++be 1 n)))) (λ_ lv _=>(intOf lv+8).toNat)
 case atStart=>exact .inl ⟨rfl,rfl,rfl⟩
 rcases hrel with ⟨rfl,rfl,rfl⟩|⟨rfl,f⟩
 ·have m:Hid (l.length+1<=maxLen):=by show _<=_;unfold maxLen;omega
  have p:Hid ((l.length+1)*1<=140737488355328):=by show _<=_;omega
  have q:Hid (∀o,base<=(wr.alloc o).heap.size):=λo=>by
   show base<=_;simp;omega
  have g:Hid _:=hrow;clear hlen hn hrow;generalize UInt8.ofNat n=x at h a;go_wp2_with (at_builtin;refine wpList_append_own_at _ rfl (.tmp 12) (.tmp 16) _ rfl base _ k _ 1 1 underlying114 j b c d rfl (by decide) u0 _ _ rfl (p_ g.out _) ⟨wr.heap.size,0,none⟩ 1 1 [.int .u8 n] rfl rfl (iM wr _ _) (by simp[Value.oneCell']) m.out p.out (q.out _) ?_;intro v1 w1 hown1 hg1 hnil1 hloc1);refine⟨.inr ⟨by go_num,aL.step (aL.refl g.out) hg1 (by rw[a,eF];simp only[bc,C_,List.map_nil,h];exact hown1) hloc1⟩,by simp[intOf]⟩
 have i:Hid _:=f;clear f;go_wp2;go_ret;exact⟨u0,rfl,i.out⟩
theorem Dj (hj:j<4):(n:Int)/2^(24-8*j)%256=((UInt8.ofNat (n/256^(4-1-j)%256)).toNat:Int):=by
 have e:(2:Nat)^(24-8*j)=256^(4-1-j):=by
  rw[show (256:Nat)=2^8 from rfl,<-Nat.pow_mul];congr 1;omega
 rw[jT (Nat.mod_lt _ (by decide)),<-e,Int.natCast_emod,Int.natCast_ediv,Int.natCast_pow];rfl
theorem Dh (n:Nat)(v:Value)(l:List UInt8)(base:Nat)(w:World)(hrow:w.ownsRow base 5 1 v l.length (bc l))(hbase:base<=w.heap.size)(hlen:l.length<1099511627776):
 Calls prog 161 #[v,.int .u32 n] w λe w'=>∃v',e=.returned v'/\aL base w w' v v' (l.length+4) (bc (l++be 4 n)):=by
 obtain⟨q,k,d,f,g⟩:=info_parts g8;go_enter func161,ntmps161;go_wp2_with (go_at_call 201;go_fit (xC _);rintro e w' ⟨rfl,rfl⟩);go_loopw [0,5] (λbv lv wr=>∃j:Nat,j<=4/\lv=I (24-8*j)/\aL base w wr v bv (l.length+j) (bc (l++(be 4 n).take j))) (λ_ lv _=>(intOf lv+8).toNat)
 case atStart=>exact⟨0,by omega,rfl,aL.refl (by simpa using hrow)⟩
 obtain⟨j,u,rfl,a⟩:=hrel;have b:=hd a;by_cases hj4:j<4
 ·have p:24-8*(j:Int)≥0:=by omega
  have i:=Dj (n:=n) hj4;have c:=pF 4 n j hj4;generalize UInt8.ofNat (n/256^(4-1-j)%256)=x at i c;have h:Hid _:=c;have r:Hid (l.length+j+1<=maxLen):=by show _<=_;unfold maxLen;omega
  have s:Hid ((l.length+j+1)*1<=140737488355328):=by show _<=_;omega
  have t:Hid (∀o,base<=(wr.alloc o).heap.size):=λo=>by
   show base<=_;have:=a.grown.size;simp;omega
  have m:=hd (a.row);clear a hrow c hlen;go_wp2_with (at_builtin;refine wpList_append_own_at _ rfl (.tmp 12) (.tmp 17) _ rfl base _ q _ 1 1 underlying114 k d f g rfl (by decide) u0 _ _ rfl (p_ m.out _) ⟨wr.heap.size,0,none⟩ 1 1 [.int .u8 x.toNat] rfl rfl (iM wr _ _) (by simp[Value.oneCell']) r.out s.out (t.out _) ?_;intro v1 w1 hown1 hg1 hnil1 hloc1);refine⟨⟨j+1,by omega,by go_num,b.out.step hg1 (by rw[h.out,<-A_,eF];exact hown1) hloc1⟩,by simp[intOf];omega⟩
 obtain rfl:j=4:=by omega
 have e:(be 4 n).take 4=be 4 n:=m_ (by rw[aC];exact b_ _);rw[e] at b;clear a;go_wp2;go_ret;exact⟨u0,rfl,b.out⟩
theorem Dk (hj:j<8):(n:Int)/2^(56-8*j)%256=((UInt8.ofNat (n/256^(8-1-j)%256)).toNat:Int):=by
 have e:(2:Nat)^(56-8*j)=256^(8-1-j):=by
  rw[show (256:Nat)=2^8 from rfl,<-Nat.pow_mul];congr 1;omega
 rw[jT (Nat.mod_lt _ (by decide)),<-e,Int.natCast_emod,Int.natCast_ediv,Int.natCast_pow];rfl
theorem Di (n:Nat)(v:Value)(l:List UInt8)(base:Nat)(w:World)(hrow:w.ownsRow base 5 1 v l.length (bc l))(hbase:base<=w.heap.size)(hlen:l.length<1099511627776):
 Calls prog 198 #[v,I n] w λe w'=>∃v',e=.returned v'/\aL base w w' v v' (l.length+8) (bc (l++be 8 n)):=by
 obtain⟨q,k,d,f,g⟩:=info_parts g8;go_enter func198,ntmps198;go_wp2_with (go_at_call 238;go_fit (xB _);rintro e w' ⟨rfl,rfl⟩);go_loopw [0,5] (λbv lv wr=>∃j:Nat,j<=8/\lv=I (56-8*j)/\aL base w wr v bv (l.length+j) (bc (l++(be 8 n).take j))) (λ_ lv _=>(intOf lv+8).toNat)
 case atStart=>exact⟨0,by omega,rfl,aL.refl (by simpa using hrow)⟩
 obtain⟨j,u,rfl,a⟩:=hrel;have b:=hd a;by_cases hj4:j<8
 ·have p:56-8*(j:Int)≥0:=by omega
  have i:=Dk (n:=n) hj4;have c:=pF 8 n j hj4;generalize UInt8.ofNat (n/256^(8-1-j)%256)=x at i c;have h:Hid _:=c;have r:Hid (l.length+j+1<=maxLen):=by show _<=_;unfold maxLen;omega
  have s:Hid ((l.length+j+1)*1<=140737488355328):=by show _<=_;omega
  have t:Hid (∀o,base<=(wr.alloc o).heap.size):=λo=>by
   show base<=_;have:=a.grown.size;simp;omega
  have m:=hd (a.row);clear a hrow c hlen;go_wp2_with (at_builtin;refine wpList_append_own_at _ rfl (.tmp 12) (.tmp 17) _ rfl base _ q _ 1 1 underlying114 k d f g rfl (by decide) u0 _ _ rfl (p_ m.out _) ⟨wr.heap.size,0,none⟩ 1 1 [.int .u8 x.toNat] rfl rfl (iM wr _ _) (by simp[Value.oneCell']) r.out s.out (t.out _) ?_;intro v1 w1 hown1 hg1 hnil1 hloc1);refine⟨⟨j+1,by omega,by go_num,b.out.step hg1 (by rw[h.out,<-A_,eF];exact hown1) hloc1⟩,by simp[intOf];omega⟩
 obtain rfl:j=8:=by omega
 have e:(be 8 n).take 8=be 8 n:=m_ (by rw[aC];exact b_ _);rw[e] at b;clear a;go_wp2;go_ret;exact⟨u0,rfl,b.out⟩
variable{cs:Array Value}{es:List Ed}{b bb k off:Nat}
theorem pH {l:List Ed}(hb:Bl w wr)(hlt:b<w.heap.size)(h0:∀i (h:i<l.length),w.cell? ⟨b,off+i*3,none⟩=some (.string l[i].1))(h1:∀i (h:i<l.length),w.cell? ⟨b,off+i*3+1,none⟩=some (.string l[i].2.1))(h2:∀i (h:i<l.length),w.cell? ⟨b,off+i*3+2,none⟩=some (.string l[i].2.2)){k:Nat}(hk:k<l.length):
 wr.cell? ⟨b,off+k*3,none⟩=some (.string l[k].1)/\wr.cell? ⟨b,off+k*3+1,none⟩=some (.string l[k].2.1)/\wr.cell? ⟨b,off+k*3+2,none⟩=some (.string l[k].2.2)/\b<wr.heap.size:=
 ⟨ae hb (h0 k hk),ae hb (h1 k hk),ae hb (h2 k hk),h_ hlt hb.size⟩
theorem dV (s:ByteArray):(txt s).length=s.size+1:=by
 rw[txt,a_,aC];simp;omega
theorem Am (e:Ed):(edB e).length=e.1.size+e.2.1.size+e.2.2.size+3:=by
 rw[edB,a_,a_,dV,dV,dV];omega
def iA (es:List Ed):Prop:=es.length<=4/\∀x∈es,x.1.size<=8/\x.2.1.size<=8/\x.2.2.size<=8
theorem jy:∀(es:List Ed),(∀x∈es,x.1.size<=8/\x.2.1.size<=8/\x.2.2.size<=8)->(es.flatMap edB).length<=es.length*27
 |[],_=>by simp
 |e::es,h=>by
  have h1:=h e (by simp)
  have a:=jy es λx hx=>h x (by simp[hx])
  rw[F_,a_,Am,List.length_cons]
  omega
def eV (lane:Nat)(es:List Ed)(k:Nat):List UInt8:=be 1 lane++be 1 es.length++(es.take k).flatMap edB
theorem mt (h:iA es)(lane k:Nat):(eV lane es k).length<=110:=by
 have a:=jy (es.take k) λx hx=>h.2 x (List.mem_of_mem_take hx);have b:=h.1;rw[l_] at a;rw[eV,a_,a_,aC,aC];omega
theorem vN (hk:k<es.length)(lane:Nat):eV lane es (k+1)=eV lane es k++txt es[k].1++txt es[k].2.1++txt es[k].2.2:=by
 rw[eV,eV,g_ hk,r_];simp[edB]
def kG (w:World)(bb:Nat)(cs:Array Value):Prop:=w.heap[bb]? =some (.cells cs 168 (0,0))
theorem kG.new (w:World)(cs:Array Value):kG (w.alloc (.cells cs 168)) w.heap.size cs:=by
 show (w.heap.push _)[w.heap.size]? =_;simp
theorem kG.later (h:kG w bb cs)(hb:Bl w w'):kG w' bb cs:=
 (hb.block bb (j_.1 h).1).trans h
theorem kG.cell (h:kG w bb cs){i:Nat}{v:Value}(hv:cs[i]? =some v):w.cell? ⟨bb,i,none⟩=some v:=by
 unfold kG at h;simp[World.cell?,h,hv]
theorem nZ (lane num:Nat)(pass:Bool)(es:List Ed)(b off cap:Nat)(w:World)(hnum:num<9223372036854775808)(hlane:lane<256)(hsm:iA es)(hlt:b<w.heap.size)(h0:∀i (h:i<es.length),w.cell? ⟨b,off+i*3,none⟩=some (.string es[i].1))(h1:∀i (h:i<es.length),w.cell? ⟨b,off+i*3+1,none⟩=some (.string es[i].2.1))(h2:∀i (h:i<es.length),w.cell? ⟨b,off+i*3+2,none⟩=some (.string es[i].2.2))(body s:List UInt8)(hbody:body=eV lane es es.length++be 8 num)(hs:s=be 1 1++be 4 body.length++body):
 c_ 132 #[.agg #[I 1,I lane,I num,.bool pass,s_ b off es.length cap]] w λe w'=>e=.returned (.string (bs (s++be 4 (bO s))))/\Bl w w':=by
 have hl4:=hsm.1;have z1:∀n,(bs (be 1 n)).size=1:=λn=>by rw[bh,aC]
 have e1:bs (be 1 lane)++bs (be 1 es.length)=bs (eV lane es 0):=by rw[bo];simp[eV]
 go_enter func132,ntmps132;go_wp2
 go_region_held_law (λw'=>w'.cell? ⟨w.heap.size,1,none⟩=some (I lane)/\w'.cell? ⟨w.heap.size,4,none⟩=some (s_ b off es.length cap)) (go_keep) (first
  |(go_at_call 180;go_fit (eU lane _ (by omega));rintro e w1 ⟨rfl,hb1⟩;have c1:w1.cell? ⟨w.heap.size,1,none⟩=some (I lane):=ae hb1 (by simp);have c4:w1.cell? ⟨w.heap.size,4,none⟩=some (s_ b off es.length cap):=ae hb1 (by simp))
  |(go_at_call 180;go_fit (eU es.length _ (by omega));rintro e w2 ⟨rfl,hb2⟩;have d1:=ae hb2 c1;have d4:=ae hb2 c4))
 have B2:Hid (Bl w w2):=aK (jo hb1) hb2;have X2:Hid (kG w2 w.heap.size #[I 1,I lane,I num,.bool pass,s_ b off es.length cap]):=kG.later (kG.later (w:=w.alloc _) (kG.new w _) (g7 hb1)) hb2;clear c1 c4 d1 d4 hb1 hb2 e1;go_wp2;go_loopw [3,4] (λsv iv wr=>∃k:Nat,k<=es.length/\iv=I k/\sv=.string (bs (eV lane es k))/\Hid (kG wr w.heap.size #[I 1,I lane,I num,.bool pass,s_ b off es.length cap])/\Hid (Bl w wr)) (λ_ i _=>es.length-(intOf i).toNat)
 case atStart=>exact⟨0,k_ _,rfl,rfl,X2,B2⟩
 obtain⟨k,hk,rfl,rfl,X,B⟩:=hrel;clear X2 B2;by_cases hlk:k<es.length
 ·obtain⟨g0,g1,g2,gb⟩:=pH B.out hlt h0 h1 h2 hlk;have hsb:=mt hsm lane k;have hsc:=vN hlk lane;obtain⟨y0,y1,y2⟩:=hsm.2 _ (i_ hlk);have c4:=X.out.cell (i:=4) rfl;clear h0 h1 h2 hs hbody hnum z1;generalize hNe:eV lane es (k+1)=N at hsc;have HN:=hd hNe;clear hNe;generalize eV lane es k=M at hsb hsc;generalize es[k].1=p at g0 y0 hsc;generalize es[k].2.1=o at g1 y1 hsc;generalize es[k].2.2=n at g2 y2 hsc;have z0:(bs M).size=M.length:=rfl;have z1:(bs (txt p)).size=p.size+1:=dV p;have z2:(bs (txt o)).size=o.size+1:=dV o;have z3:(bs (txt n)).size=n.size+1:=dV n;obtain⟨M1,hM1⟩:∃M1,M1=M++txt p:=⟨_,rfl⟩;obtain⟨M2,hM2⟩:∃M2,M2=M1++txt o:=⟨_,rfl⟩;have hN:N=M2++txt n:=by rw[hM2,hM1,hsc]
  have f1:bs M++bs (txt p)=bs M1:=by rw[hM1];exact bo _ _
  have f2:bs M1++bs (txt o)=bs M2:=by rw[hM2];exact bo _ _
  have f3:bs M2++bs (txt n)=bs N:=by rw[hN];exact bo _ _
  have z4:(bs M1).size=M.length+(p.size+1):=by rw[bh,hM1,a_,dV]
  have z5:(bs M2).size=M.length+(p.size+1)+(o.size+1):=by rw[bh,hM2,a_,<-bh,z4,dV]
  have z6:(bs N).size=M.length+(p.size+1)+(o.size+1)+(n.size+1):=by rw[bh,hN,a_,<-bh,z5,dV]
  clear hM1 hM2 hN;clear hsc;go_wp2
  go_region_held_law (λw'=>w'.cell? ⟨w.heap.size,4,none⟩=some (s_ b off es.length cap)/\w'.cell? ⟨b,off+k*3,none⟩=some (.string p)/\w'.cell? ⟨b,off+k*3+1,none⟩=some (.string o)/\w'.cell? ⟨b,off+k*3+2,none⟩=some (.string n)) (go_keep) (first
   |(go_at_call 181;go_fit (mn p wr.drew (by omega));rintro e w3 ⟨rfl,hb3⟩;have a0:=ae hb3 c4;have a1:=ae hb3 g0;have a2:=ae hb3 g1;have a3:=ae hb3 g2)
   |(go_at_call 181;go_fit (mn o w3 (by omega));rintro e w4 ⟨rfl,hb4⟩;have b0:=ae hb4 a0;have b1:=ae hb4 a1;have b2:=ae hb4 a2;have b3:=ae hb4 a3)
   |(go_at_call 181;go_fit (mn n w4 (by omega));rintro e w5 ⟨rfl,hb5⟩;have d0:=ae hb5 b0;have d1:=ae hb5 b1;have d2:=ae hb5 b2;have d3:=ae hb5 b3))
  all_goals
   have hb35:Bl wr w5:=aK (aK (g7 hb3) hb4) hb5;clear a0 a1 a2 a3 b0 b1 b2 b3 d0 d1 d2 d3 z0 z1 z2 z3 z4 z5 z6 f1 f2 f3;go_wp2;exact⟨⟨k+1,hlk,by go_num,by rw[HN.out],X.out.later hb35,aK B.out hb35⟩,by simp[intOf];omega⟩
 obtain rfl:k=es.length:=by omega
 have c0:=X.out.cell (i:=0) rfl;have c2:=X.out.cell (i:=2) rfl;have c4:=X.out.cell (i:=4) rfl;have hsb:=mt hsm lane es.length;have z8:(bs (be 8 num)).size=8:=by rw[bh,aC]
 have z4:∀n,(bs (be 4 n)).size=4:=λn=>by rw[bh,aC]
 have zb:(bs body).size=body.length:=rfl;have zl:body.length<=118:=by rw[hbody,a_,aC];omega
 have z0:(bs (eV lane es es.length)).size=(eV lane es es.length).length:=rfl;have f1:bs (eV lane es es.length)++bs (be 8 num)=bs body:=by rw[hbody];exact bo _ _
 have f2:bs (be 1 1)++bs (be 4 body.length)=bs (be 1 1++be 4 body.length):=bo _ _;have f3:bs (be 1 1++be 4 body.length)++bs body=bs s:=by rw[hs];exact bo _ _
 have f4:bs s++bs (be 4 (bO s))=bs (s++be 4 (bO s)):=bo _ _;have z5:(bs (be 1 1++be 4 body.length)).size=5:=by rw[bh,a_,aC,aC]
 have zs:(bs s).size=5+body.length:=by rw[hs,bh,a_,a_,aC,aC]
 have z9:(bs (s++be 4 (bO s))).size=9+body.length:=by rw[bh,a_,aC,<-bh,zs];omega
 have hS:∀w,c_ 182 #[.string (bs s)] w λe w'=>e=.returned (I (bO s))/\w'=w:=λw=>by
  have:=gZ (bs s) w (by rw[zs];omega);rwa [lY] at this
 have hA:=iL s;clear hs hbody h0 h1 h2 hsm;generalize eV lane es es.length=M at hsb z0 f1
 go_wp2_with (first
  |(go_at_call 180;go_fit (mr num _ hnum);rintro e w3 ⟨rfl,hb3⟩;have a0:=ae hb3 c0)
  |(go_at_call 180;go_fit (eU 1 w3 (by omega));rintro e w4 ⟨rfl,hb4⟩)
  |(go_at_call 180;go_fit (eT body.length w4 (by omega));rintro e w5 ⟨rfl,hb5⟩)
  |(go_at_call 182;go_fit (hS _);rintro e w' ⟨rfl,rfl⟩)
  |(go_at_call 180;go_fit (eT (bO s) _ (by omega));rintro e w6 ⟨rfl,hb6⟩))
 go_ret;exact⟨rfl,aK (aK (aK (aK B.out hb3) hb4) hb5) hb6⟩
variable{i:Nat}
def jU (w:World)(v:Value)(l:List UInt8):Prop:=
 (l=[]/\∃a cap,v=.slice a 0 cap)\/
 ∃g off cap,v=.slice (some ⟨g,off,none⟩) l.length cap/\g<w.heap.size/\∀i (h:i<l.length),w.cell? ⟨g,off+i,none⟩=some (.int .u8 l[i].toNat)
theorem jU.of_row {l:List UInt8}(h:w.ownsRow base 5 1 v l.length (bc l)):jU w v l:=by
 rcases h.2 with ⟨rfl,c⟩|⟨g,a,b,rfl,f,e,_⟩
 ·exact .inl ⟨List.length_eq_zero_iff.1 c,_,_,rfl⟩
 have d:=h.cells (g:=g) rfl;refine .inr ⟨g,0,a,rfl,(j_.1 e).1,λi hi=>?_⟩;have:=d i (.int .u8 l[i].toNat) (by simp[bc,hi]);rwa [bE] at this
theorem xD {l:List UInt8}(h:i<l.length):fj (l.take (i+1))=adl (fj (l.take i)) l[i]:=by
 rw[g_ h,kD]
theorem xE (l:List UInt8)(g off cap:Nat)(w:World)(hc:∀i (h:i<l.length),w.cell? ⟨g,off+i,none⟩=some (.int .u8 l[i].toNat))(hl:l.length<1099511627776):
 c_ 162 #[s_ g off l.length cap] w λe w'=>e=.returned (.int .u32 (bO l))/\w=w':=by
 go_enter func162,ntmps162;go_wp2;go_loop [3,4,6,9] (λa b _ i=>∃k:Nat,k<=l.length/\i=I k/\a=.int .u32 (fj (l.take k)).1/\b=.int .u32 (fj (l.take k)).2) (λ_ _ _ i=>l.length-(intOf i).toNat)
 case atStart=>exact⟨0,k_ _,rfl,rfl,rfl⟩
 obtain⟨k,p,rfl,rfl,rfl⟩:=hrel;have c:=pD (l.take k);by_cases hlk:k<l.length
 ·have d:=xD hlk;have f:=hc k hlk;have n:=l[k].toNat_lt;generalize l[k]=x at d f n;generalize fj (l.take k)=ab at d c;have m:Hid _:=d;clear d hc;go_wp2;refine⟨⟨k+1,hlk,by go_num,?_,?_⟩,by simp[intOf];omega⟩
  ·rw[m.out];simp[adl]
  rw[m.out];simp[adl]
 obtain rfl:k=l.length:=by omega
 rw[m_ (b_ _)] at c ⊢;have j:Hid (bO l=(fj l).2*65536+(fj l).1):=rfl;generalize fj l=ab at c j;have o:bits .or .u32 ((ab.2:Int)*65536) (ab.1:Int)=(ab.2:Int)*65536+(ab.1:Int):=bits_join .u32 32 (by decide) wraps_u32 16 _ _ (by omega) (by omega) (by omega) (by omega) (by omega) (by omega);go_wp2;go_ret;exact⟨by rw[j.out,Int.natCast_add,Int.natCast_mul];rfl,rfl⟩
theorem vL (a:Option Addr)(cap:Nat)(w:World):
 c_ 162 #[.slice a 0 cap] w λe w'=>e=.returned (.int .u32 (bO []))/\w=w':=by
 go_enter func162,ntmps162;go_wp2;go_loop [3,4,6,9] (λa b _ i=>i=I 0/\a=.int .u32 1/\b=.int .u32 0) (λ_ _ _ _=>0)
 case atStart=>exact⟨rfl,rfl,rfl⟩
 obtain⟨rfl,rfl,rfl⟩:=hrel;go_wp2;go_ret;exact⟨by rfl,rfl⟩
theorem qP (l:List UInt8)(v:Value)(w:World)(h:jU w v l)(hl:l.length<1099511627776):
 c_ 162 #[v] w λe w'=>e=.returned (.int .u32 (bO l))/\w=w':=by
 rcases h with ⟨rfl,a,b,rfl⟩|⟨g,c,b,rfl,_,d⟩
 ·exact vL a b w
 exact xE l g c b w d hl
variable{sh:Bool}{R:List UInt8}{cb:Nat}
def Cur (w:World)(cb:Nat)(v:Value)(sh:Bool):Prop:=w.heap[cb]? =some (.cells #[v,.bool sh] 205 (0,0))
theorem Cur.c0 (h:Cur w cb v sh):w.cell? ⟨cb,0,none⟩=some v:=by
 unfold Cur at h;simp[World.cell?,h]
theorem Cur.c1 (h:Cur w cb v sh):w.cell? ⟨cb,1,none⟩=some (.bool sh):=by
 unfold Cur at h;simp[World.cell?,h]
theorem Cur.fr (h:Cur w cb v sh)(i:Nat):w.frozen? ⟨cb,i,none⟩=false:=by
 unfold Cur at h;simp[World.frozen?,h]
theorem Cur.set0 (h:Cur w cb v sh)(u:Value):Cur (w.setCell ⟨cb,0,none⟩ u) cb u sh:=by
 unfold Cur at h ⊢;simp[World.setCell,Array.getElem?_modify,h]
theorem Cur.set1 (h:Cur w cb v sh)(b:Bool):Cur (w.setCell ⟨cb,1,none⟩ (.bool b)) cb v b:=by
 unfold Cur at h ⊢;simp[World.setCell,Array.getElem?_modify,h]
theorem ah (w:World)(b o:Nat)(u:Value):w.grownBy (w.setCell ⟨b,o,none⟩ u) (some b):=
 ⟨rfl,rfl,rfl,by simp[World.setCell],λk _ hne=>by
  have:b≠k:=λe=>hne (by rw[e])
  simp[World.setCell,Array.getElem?_modify,this]⟩
def BV (w:World)(v:Value)(R:List UInt8):Prop:=
 (R=[]/\v=Zn)\/∃g off cap,v=.slice (some ⟨g,off,none⟩) R.length cap/\R.length<=cap/\(cap<9223372036854775808/\R.length<1099511627776)/\g<w.heap.size/\∀i (h:i<R.length),w.cell? ⟨g,off+i,none⟩=some (.int .u8 R[i].toNat)
theorem BV.at (h:BV w v R):jU w v R:=by
 rcases h with ⟨rfl,rfl⟩|⟨g,b,a,rfl,_,_,d,c⟩
 ·exact .inl ⟨rfl,_,_,rfl⟩
 exact .inr ⟨g,b,a,rfl,d,c⟩
theorem Cur.ne {x:Value}(h:Cur w cb x sh)(hx:∃a n c,x=.slice a n c){g o:Nat}{b:Nat}(hc:w.cell? ⟨g,o,none⟩=some (.int .u8 b)):g≠cb:=by
 rintro rfl;obtain⟨a,n,c,rfl⟩:=hx;unfold Cur at h;simp only[World.cell?,h] at hc;rcases o with _|_|o
 ·simp at hc
 ·simp at hc
 simp at hc
theorem BV.form (h:BV w v R):∃a n c,v=.slice a n c:=by
 rcases h with ⟨_,rfl⟩|⟨g,d,b,rfl,_⟩
 ·exact⟨_,_,_,rfl⟩
 exact⟨_,_,_,rfl⟩
theorem BV.keep {x:Value}(h:BV w v R)(hC:Cur w cb x sh)(hx:∃a n c,x=.slice a n c)(hg:w.grownBy w' (some cb)):BV w' v R:=by
 rcases h with h|⟨g,d,b,j,k,l,m,f⟩
 ·exact .inl h
 refine .inr ⟨g,d,b,j,k,l,h_ m hg.size,λi hi=>hg.cell (f i hi) (λe=>?_)⟩;exact hC.ne hx (f i hi) (by simpa using e)
theorem BV.later (h:BV w v R)(hb:Bl w w'):BV w' v R:=by
 rcases h with h|⟨g,b,a,c,d,e,f,j⟩
 ·exact .inl h
 exact .inr ⟨g,b,a,c,d,e,h_ f hb.size,λi hi=>ae hb (j i hi)⟩
def BX (e:Ending)(w w':World)(cb:Nat)(v:Value)(sh:Bool)(R:List UInt8)(n:Nat):Prop:=
 ((n<=R.length/\∃u v',e=.returned u/\Cur w' cb v' sh/\BV w' u (R.take n)/\BV w' v' (R.drop n)/\u.ownBlock=v.ownBlock/\v'.ownBlock=v.ownBlock)\/(R.length<n/\e=.returned (Zn)/\Cur w' cb v true/\BV w' v R))/\w.grownBy w' (some cb)
theorem gD (cb n:Nat)(v:Value)(sh:Bool)(R:List UInt8)(w:World)(hC:Cur w cb v sh)(hV:BV w v R)(hn:n<18446744073709551616):
 c_ 165 #[Px cb,.int .u64 n] w λe w'=>BX e w w' cb v sh R n:=by
 have y:=hC.c0;have A:=hC.fr 0;have z:=hC.c1;have B:=hC.fr 1;have h:=hd hC;have u:=hd hV;by_cases hlt:R.length<n
 ·have m:∃a c,v=.slice a R.length c:=by
   rcases hV with ⟨rfl,rfl⟩|⟨g,d,b,rfl,_⟩
   ·exact⟨_,_,rfl⟩
   exact⟨_,_,rfl⟩
  obtain⟨a,c,rfl⟩:=m
  have s:R.length<1099511627776:=by
   rcases hV with ⟨rfl,_⟩|⟨g,d,b,C,x,r,_⟩
   ·decide
   omega
  have j:(R.length:Int)<n:=by omega
  clear hC hV;go_enter func165,ntmps165;go_wp2;go_ret;exact⟨.inr ⟨hlt,rfl,h.out.set1 true,u.out.keep h.out ⟨_,_,_,rfl⟩ (ah _ _ _ _)⟩,ah _ _ _ _⟩
 have f:n<=R.length:=by omega
 rcases hV with ⟨rfl,rfl⟩|⟨g,d,b,rfl,x,r,k,l⟩
 ·obtain rfl:n=0:=by simpa using f
  clear hC;go_enter func165,ntmps165;go_wp2;go_ret;exact⟨.inl ⟨f,_,_,rfl,h.out.set0 _,.inl ⟨rfl,rfl⟩,.inl ⟨rfl,rfl⟩,rfl,rfl⟩,ah _ _ _ _⟩
 have j:¬((R.length:Int)<n):=by omega
 have p:Hid (∀w',w.grownBy w' (some cb)->BV w' (s_ g d n b) (R.take n)):=λw' hg=>BV.keep (.inr ⟨g,d,b,by rw[l_,U_ f],by rw[l_];omega,⟨r.1,by rw[l_];omega⟩,k,λi hi=>by
  rw[l_] at hi
  rw[List.getElem_take];exact l i (by omega)⟩) h.out ⟨_,_,_,rfl⟩ hg
 have q:Hid (∀w' o,(o=d+n\/b-n=0)->w.grownBy w' (some cb)->BV w' (s_ g o (R.length-n) (b-n)) (R.drop n)):=λw' o t hg=>BV.keep (.inr ⟨g,o,b-n,by rw[G_],by rw[G_];omega,⟨by omega,by rw[G_];omega⟩,k,λi hi=>by
  rw[G_] at hi;rcases t with rfl|t
  ·rw[List.getElem_drop,J_];exact l (n+i) (by omega)
  omega⟩) h.out ⟨_,_,_,rfl⟩ hg
 clear hC k l;by_cases hcn:b=n
 ·subst hcn;go_enter func165,ntmps165;go_wp2;go_ret;exact⟨.inl ⟨f,_,_,rfl,h.out.set0 _,p.out _ (ah _ _ _ _),by have:=q.out _ d (.inr (by omega)) (ah w cb 0 (s_ g d 0 0));rwa [show R.length-b=0 by omega,Nat.sub_self] at this,rfl,rfl⟩,ah _ _ _ _⟩
 go_enter func165,ntmps165;go_wp2;go_ret;exact⟨.inl ⟨f,_,_,rfl,h.out.set0 _,p.out _ (ah _ _ _ _),q.out _ _ (.inl rfl) (ah _ _ _ _),rfl,rfl⟩,ah _ _ _ _⟩
variable{P:Program}{v1 v2:Value}{w1 w2:World}
theorem nW (w:World)(base:Nat)(t u ty e:TypeId)(i:TypeInfo)(ht:P.underlying t=some (.slice e))(hu:P.underlying u=some .string)(hi:P.info? e=some i)(hz:i.zero=some (.int .u8 0))(hsize:i.size=1)(hby:i.bytes=1)(v:Value)(n:Nat)(xs:List Value)(hown:w.ownsRow base e 1 v n xs)(s:ByteArray)(h63:n+s.size<=maxLen)(hbytes:n+s.size<=140737488355328)(hbase:base<=w.heap.size):
 ∃v' w',(Builtin.append_ #[t,u] ty #[v,.string s]).run P w=.ok v' w'/\w'.ownsRow base e 1 v' (n+s.size) (xs++Lib.strCells s)/\w.grownBy w' v.ownBlock/\(v'.ownBlock=v.ownBlock\/v'.ownBlock=some w.heap.size):=by
 obtain⟨v',w',c,k,l,m⟩:=Lib.run_append_own_string (P:=P) w base t u ty e i ht hu hi hz hsize hby v n xs hown s h63 hbytes hbase;refine⟨v',w',c,k,l,?_⟩;have d:n+s.size<=9223372036854775807:=by omega
 rcases hown.2 with ⟨rfl,rfl⟩|⟨g,b,f,rfl,o,r,x,p,q,h⟩
 ·by_cases hm:s.size=0
  ·rw[m.2 ⟨rfl,hm⟩];exact .inl rfl
  have a:=run_append_nil_string (P:=P) w t u ty e i (.int .u8 0) ht hu hi hz s (by omega) (by omega) (by rw[hby];omega);rw[c] at a;cases a
  exact .inr rfl
 by_cases hroom:n+s.size<=b
 ·have a:=Lib.run_append_room_string (P:=P) w t u ty e i ht hu hi hsize g n b f r s hroom (by omega);rw[c] at a;cases a
  exact .inl rfl
 have j:xs.length=n:=by simpa using hown.1
 have a:=Lib.run_append_grow_string (P:=P) w t u ty e i (.int .u8 0) ht hu hi hz ⟨g,0,none⟩ n b xs (by rw[hsize];simpa using j) (hown.cells (g:=g) rfl) s (by omega) (by omega) (by rw[hby];exact growslice_fits (by omega) (by omega));rw[c] at a;cases a
 exact .inr rfl
theorem kF (w:World){ops:Array Oper}{rest:List Oper}{o:Oper}{a:Act}{Q:Exit->Act->World->Prop}(hgd:o.guard=none)(sl x:Operand)(t u:TypeId)(ho:o.op=.call {callee:=.builtin .append,args:=#[sl,x],argTypes:=#[t,u]})(base:Nat)(e:TypeId)(i:TypeInfo)(ht:P.underlying t=some (.slice e))(hu:P.underlying u=some .string)(hi:P.info? e=some i)(hz:i.zero=some (.int .u8 0))(hsize:i.size=1)(hby:i.bytes=1)(v:Value)(n:Nat)(xs:List Value)(hs:a.eval sl=v)(hown:w.ownsRow base e 1 v n xs)(s:ByteArray)(hx:a.eval x=.string s)(h63:n+s.size<=maxLen)(hbytes:n+s.size<=140737488355328)(hbase:base<=w.heap.size)(h:∀v' w',w'.ownsRow base e 1 v' (n+s.size) (xs++Lib.strCells s)->w.grownBy w' v.ownBlock->(v'.ownBlock=v.ownBlock\/v'.ownBlock=some w.heap.size)->wpList P ops Q rest (a.put o.dst v') w'):wpList P ops Q (o::rest) a w:=by
 refine wpList_plain hgd λK hK=>?_;obtain⟨v',w',f,b,c,d⟩:=nW (P:=P) w base t u o.type e i ht hu hi hz hsize hby v n xs hown s h63 hbytes hbase;unfold Oper.wp execOp;simp only[ho,resolve,invoke,builtin,Sem.run_bind,Sem.run_pure,Result.andThen_ok,List.map_toArray,C_,List.map_nil,hs,hx,f];exact hK _ _ (h v' w' b c d)
abbrev App (base:Nat)(w w':World)(v v':Value)(l:List UInt8):Prop:=aL base w w' v v' l.length (bc l)
theorem aL.trans (h:aL base w w1 v v1 n xs)(h2:aL base w1 w2 v1 v2 m ys):aL base w w2 v v2 m ys:=by
 have c:=h.grown.size;refine⟨h2.row,⟨h2.grown.os.trans h.grown.os,h2.grown.tape.trans h.grown.tape,h2.grown.output.trans h.grown.output,e_ c h2.grown.size,λk hk hne=>?_⟩,?_⟩
 ·rw[h2.grown.block k (h_ hk c) (λe=>?_),h.grown.block k hk hne];rcases h.block with a|⟨g,a,f⟩
  ·exact hne (by rw[e,a])
  rw[a] at e;cases e;omega
 rcases h2.block with b|⟨g,b,d⟩
 ·rw[b];exact h.block
 exact .inr ⟨g,b,e_ c d⟩
theorem aL.keeps (h:aL base w w' v v' n xs){b o:Nat}{u:Value}(hc:w.cell? ⟨b,o,none⟩=some u)(hne:v.ownBlock≠some b):w'.cell? ⟨b,o,none⟩=some u:=
 h.grown.cell hc (λe=>hne e.symm)
theorem aL.apart (h:aL base w w' v v' n xs){b:Nat}(hb:b<w.heap.size)(hne:v.ownBlock≠some b):v'.ownBlock≠some b:=by
 rcases h.block with a|⟨g,a,c⟩
 ·rw[a];exact hne
 rw[a];intro e;cases e;omega
theorem qQ (n:Nat)(hn:n<256)(v:Value)(l:List UInt8)(base:Nat)(w:World)(h:w.ownsRow base 5 1 v l.length (bc l))(hbase:base<=w.heap.size)(hlen:l.length<1099511627776):
 c_ 160 #[v,.int .u8 n] w λe w'=>∃v',e=.returned v'/\App base w w' v v' (l++be 1 n):=
 (EM n hn v l base w h hbase hlen).mono λe w' ⟨v',he,ha⟩=>⟨v',he,by
  show aL base w w' v v' (l++be 1 n).length _
  rw[a_,aC];exact ha⟩
theorem xG (n:Nat)(v:Value)(l:List UInt8)(base:Nat)(w:World)(h:w.ownsRow base 5 1 v l.length (bc l))(hbase:base<=w.heap.size)(hlen:l.length<1099511627776):
 c_ 161 #[v,.int .u32 n] w λe w'=>∃v',e=.returned v'/\App base w w' v v' (l++be 4 n):=
 (Dh n v l base w h hbase hlen).mono λe w' ⟨v',he,ha⟩=>⟨v',he,by
  show aL base w w' v v' (l++be 4 n).length _
  rw[a_,aC];exact ha⟩
theorem sW (n:Nat)(v:Value)(l:List UInt8)(base:Nat)(w:World)(h:w.ownsRow base 5 1 v l.length (bc l))(hbase:base<=w.heap.size)(hlen:l.length<1099511627776):
 c_ 198 #[v,I n] w λe w'=>∃v',e=.returned v'/\App base w w' v v' (l++be 8 n):=
 (Di n v l base w h hbase hlen).mono λe w' ⟨v',he,ha⟩=>⟨v',he,by
  show aL base w w' v v' (l++be 8 n).length _
  rw[a_,aC];exact ha⟩
theorem qR (s:ByteArray):Lib.strCells s=bc s.data.toList:=by
 simp[Lib.strCells,bc]
theorem Ak (s:ByteArray)(hs:s.size<256)(v:Value)(l:List UInt8)(base:Nat)(w:World)(h:w.ownsRow base 5 1 v l.length (bc l))(hbase:base<=w.heap.size)(hlen:l.length<1099511627000):
 c_ 237 #[v,.string s] w λe w'=>∃v',e=.returned v'/\App base w w' v v' (l++txt s):=by
 obtain⟨m,k,c,d,f⟩:=info_parts g8;have j:=qQ s.size hs v l base w h hbase (by omega);have q:(s.size:Int)%256=s.size:=by omega
 have n:Hid (l.length+1+s.size<=maxLen):=by show _<=_;unfold maxLen;omega
 have o:Hid (l.length+1+s.size<=140737488355328):=by show _<=_;omega
 have a:(l++be 1 s.size).length=l.length+1:=by rw[a_,aC]
 clear h hs;go_enter func237,ntmps237
 go_wp2_with (first
  |(go_at_call 160;go_fit j;rintro e r ⟨p,rfl,g⟩;have b:=hd g;clear g)
  |(at_builtin;refine kF _ rfl _ _ _ _ rfl base _ m underlying114 underlying9 k c d f p _ _ rfl (aL.row b.out) s rfl (by rw[a];exact n.out) (by rw[a];exact o.out) (e_ hbase (aL.grown b.out).size) ?_;intro v2 w2 hown2 hg2 hloc2))
 go_ret;refine⟨v2,rfl,aL.trans b.out ⟨?_,hg2,?_⟩⟩
 ·have e:l++txt s=l++be 1 s.size++s.data.toList:=by rw[txt,A_]
  rw[e,eF,<-qR];have i:(l++be 1 s.size++s.data.toList).length=(l++be 1 s.size).length+s.size:=by rw[a_];simp
  rw[i];exact hown2
 rcases hloc2 with h|h
 ·exact .inl h
 exact .inr ⟨_,h,b_ _⟩
def val (l:List UInt8):Nat:=l.foldl (λn b=>n*256+b.toNat) 0
theorem mo (l:List UInt8)(b:UInt8):val (l++[b])=val l*256+b.toNat:=by simp[val]
theorem mq {l:List UInt8}(h:i<l.length):val (l.take (i+1))=val (l.take i)*256+l[i].toNat:=by
 rw[g_ h,mo]
theorem ib:∀(k:Nat) (l:List UInt8),l.length=k->val l<256^k
 |0,l,h=>by rw[List.length_eq_zero_iff.1 h];decide
 |k+1,l,h=>by
  rcases List.eq_nil_or_concat l with rfl|⟨m,x,rfl⟩
  ·simp at h
  rw[List.concat_eq_append] at h ⊢
  have:=ib k m (by simpa using h)
  have a:=x.toNat_lt
  rw[mo,Nat.pow_succ];omega
theorem ie:∀(k n:Nat),val (be k n)=n%256^k
 |0,n=>by simp[be,val,Nat.mod_one]
 |k+1,n=>by
  have e1:(UInt8.ofNat (n%256)).toNat=n%256:=by rw[UInt8.toNat_ofNat'];omega
  rw[lZ,mo,ie k,e1,Nat.pow_succ,Nat.mul_comm (256^k) 256,Nat.mod_mul]
  omega
theorem pG {x:Int}{b:UInt8}(h:0<=x)(h':x<72057594037927936):bits .or .u64 (x*256) (b.toNat:Int)=x*256+b.toNat:=by
 have a:=b.toNat_lt;exact bits_join .u64 64 (by decide) wraps_u64 8 _ _ (by omega) (by omega) (by omega) (by omega) (by omega) (by omega)
def mp (x:Nat)(w w':World)(cb:Nat)(v:Value)(sh:Bool)(R:List UInt8)(k:Nat):Prop:=
 ((k<=R.length/\x=val (R.take k)/\∃v',Cur w' cb v' sh/\BV w' v' (R.drop k)/\v'.ownBlock=v.ownBlock)\/(R.length<k/\x=0/\Cur w' cb v true/\BV w' v R))/\w.grownBy w' (some cb)
theorem vM (cb:Nat)(v:Value)(sh:Bool)(R:List UInt8)(w:World)(hC:Cur w cb v sh)(hV:BV w v R):
 c_ 163 #[Px cb] w λe w'=>∃x:Nat,e=.returned (.int .u8 x)/\mp x w w' cb v sh R 1:=by
 have y:=gD cb 1 v sh R w hC hV (by decide);clear hC hV;go_enter func163,ntmps163
 go_wp2_with (first
  |(go_at_call 200;go_fit (BG _);rintro e w' ⟨rfl,rfl⟩)
  |fail)
 refine y.mono ?_;rintro e C ⟨D,t⟩;rcases D with ⟨m,u,K,rfl,a,z,c,_,p⟩|⟨A,rfl,a,c⟩
 ·have o:Hid (mp (val (R.take 1)) w C cb v sh R 1):=⟨.inl ⟨m,rfl,K,a,c,p⟩,t⟩;have j:(R.take 1).length=1:=by rw[l_,U_ m]
  generalize R.take 1=L at z j o
  obtain⟨g,d,f,rfl,r⟩:∃g d f,u=s_ g d 1 f/\∀i (h:i<L.length),C.cell? ⟨g,d+i,none⟩=some (.int .u8 L[i].toNat):=by
   rcases z with ⟨rfl,_⟩|⟨g,d,f,G,_,_,_,r⟩
   ·simp at j
   exact⟨g,d,f,by rw[G,j],r⟩
  clear a c t y z m p;go_wp2_with fail;go_loop [3,5,12] (λn _ i=>∃k:Nat,k<=1/\i=I k/\n=.int .u64 (val (L.take k))) (λ_ _ i=>1-(intOf i).toNat)
  case atStart=>exact⟨0,by omega,rfl,rfl⟩
  obtain⟨k,D,rfl,rfl⟩:=hrel;by_cases hlk:k<1
  ·have H:=r k (by omega);have s:=mq (l:=L) (i:=k) (by omega);have q:=ib k (L.take k) (by rw[l_];omega);have E:256^k<=256^7:=Nat.pow_le_pow_right (by decide) (by omega);have J:=h_ q E;generalize L[k]'(by omega)=b at H s;generalize val (L.take k)=x at s J q;have F:=hd s;have B:=pG (x:=(x:Int)) (b:=b) (by omega) (by omega);clear s q E r;go_wp2;refine⟨⟨k+1,hlk,by go_num,?_⟩,by simp[intOf];omega⟩;rw[F.out];simp;rw[gA (by omega) (by have:=b.toNat_lt;omega)];exact B
  obtain rfl:k=1:=by omega
  have e:L.take 1=L:=m_ (by omega);have q:=ib 1 L j;rw[e];generalize val L=x at q o;go_wp2;go_ret;exact⟨x,rfl,o.out⟩
 have o:Hid (mp 0 w C cb v sh R 1):=⟨.inr ⟨A,rfl,a,c⟩,t⟩;clear a c t y;go_wp2_with fail;go_loop [3,5,12] (λn _ i=>n=.int .u64 0/\i=I 0) (λ_ _ _=>0)
 case atStart=>exact⟨rfl,rfl⟩
 obtain⟨rfl,rfl⟩:=hrel;go_wp2;go_ret;exact⟨0,rfl,o.out⟩
theorem uT (cb:Nat)(v:Value)(sh:Bool)(R:List UInt8)(w:World)(hC:Cur w cb v sh)(hV:BV w v R):
 c_ 164 #[Px cb] w λe w'=>∃x:Nat,e=.returned (.int .u32 x)/\mp x w w' cb v sh R 4:=by
 have y:=gD cb 4 v sh R w hC hV (by decide);clear hC hV;go_enter func164,ntmps164
 go_wp2_with (first
  |(go_at_call 201;go_fit (xC _);rintro e w' ⟨rfl,rfl⟩)
  |fail)
 refine y.mono ?_;rintro e C ⟨D,t⟩;rcases D with ⟨m,u,K,rfl,a,z,c,_,p⟩|⟨A,rfl,a,c⟩
 ·have o:Hid (mp (val (R.take 4)) w C cb v sh R 4):=⟨.inl ⟨m,rfl,K,a,c,p⟩,t⟩;have j:(R.take 4).length=4:=by rw[l_,U_ m]
  generalize R.take 4=L at z j o
  obtain⟨g,d,f,rfl,r⟩:∃g d f,u=s_ g d 4 f/\∀i (h:i<L.length),C.cell? ⟨g,d+i,none⟩=some (.int .u8 L[i].toNat):=by
   rcases z with ⟨rfl,_⟩|⟨g,d,f,G,_,_,_,r⟩
   ·simp at j
   exact⟨g,d,f,by rw[G,j],r⟩
  clear a c t y z m p;go_wp2_with fail;go_loop [3,5,12] (λn _ i=>∃k:Nat,k<=4/\i=I k/\n=.int .u64 (val (L.take k))) (λ_ _ i=>4-(intOf i).toNat)
  case atStart=>exact⟨0,by omega,rfl,rfl⟩
  obtain⟨k,D,rfl,rfl⟩:=hrel;by_cases hlk:k<4
  ·have H:=r k (by omega);have s:=mq (l:=L) (i:=k) (by omega);have q:=ib k (L.take k) (by rw[l_];omega);have E:256^k<=256^7:=Nat.pow_le_pow_right (by decide) (by omega);have J:=h_ q E;generalize L[k]'(by omega)=b at H s;generalize val (L.take k)=x at s J q;have F:=hd s;have B:=pG (x:=(x:Int)) (b:=b) (by omega) (by omega);clear s q E r;go_wp2;refine⟨⟨k+1,hlk,by go_num,?_⟩,by simp[intOf];omega⟩;rw[F.out];simp;rw[gA (by omega) (by have:=b.toNat_lt;omega)];exact B
  obtain rfl:k=4:=by omega
  have e:L.take 4=L:=m_ (by omega);have q:=ib 4 L j;rw[e];generalize val L=x at q o;go_wp2;go_ret;exact⟨x,rfl,o.out⟩
 have o:Hid (mp 0 w C cb v sh R 4):=⟨.inr ⟨A,rfl,a,c⟩,t⟩;clear a c t y;go_wp2_with fail;go_loop [3,5,12] (λn _ i=>n=.int .u64 0/\i=I 0) (λ_ _ _=>0)
 case atStart=>exact⟨rfl,rfl⟩
 obtain⟨rfl,rfl⟩:=hrel;go_wp2;go_ret;exact⟨0,rfl,o.out⟩
theorem xF (cb:Nat)(v:Value)(sh:Bool)(R:List UInt8)(w:World)(hC:Cur w cb v sh)(hV:BV w v R)(hx:val (R.take 8)<9223372036854775808):
 c_ 203 #[Px cb] w λe w'=>∃x:Nat,e=.returned (I x)/\mp x w w' cb v sh R 8:=by
 have y:=gD cb 8 v sh R w hC hV (by decide);clear hC hV;go_enter func203,ntmps203
 go_wp2_with (first
  |(go_at_call 238;go_fit (xB _);rintro e w' ⟨rfl,rfl⟩)
  |fail)
 refine y.mono ?_;rintro e C ⟨D,t⟩;rcases D with ⟨m,u,J,rfl,a,z,c,_,p⟩|⟨A,rfl,a,c⟩
 ·have o:Hid (mp (val (R.take 8)) w C cb v sh R 8):=⟨.inl ⟨m,rfl,J,a,c,p⟩,t⟩;have j:(R.take 8).length=8:=by rw[l_,U_ m]
  generalize R.take 8=L at z j o hx
  obtain⟨g,d,f,rfl,r⟩:∃g d f,u=s_ g d 8 f/\∀i (h:i<L.length),C.cell? ⟨g,d+i,none⟩=some (.int .u8 L[i].toNat):=by
   rcases z with ⟨rfl,_⟩|⟨g,d,f,G,_,_,_,r⟩
   ·simp at j
   exact⟨g,d,f,by rw[G,j],r⟩
  clear a c t y z m p;go_wp2_with fail;go_loop [3,5,12] (λn _ i=>∃k:Nat,k<=8/\i=I k/\n=.int .u64 (val (L.take k))) (λ_ _ i=>8-(intOf i).toNat)
  case atStart=>exact⟨0,by omega,rfl,rfl⟩
  obtain⟨k,D,rfl,rfl⟩:=hrel;by_cases hlk:k<8
  ·have H:=r k (by omega);have s:=mq (l:=L) (i:=k) (by omega);have q:=ib k (L.take k) (by rw[l_];omega);have E:256^k<=256^7:=Nat.pow_le_pow_right (by decide) (by omega);have hx:=h_ q E;generalize L[k]'(by omega)=b at H s;generalize val (L.take k)=x at s hx q;have F:=hd s;have B:=pG (x:=(x:Int)) (b:=b) (by omega) (by omega);clear s q E r;go_wp2;refine⟨⟨k+1,hlk,by go_num,?_⟩,by simp[intOf];omega⟩;rw[F.out];simp;rw[gA (by omega) (by have:=b.toNat_lt;omega)];exact B
  obtain rfl:k=8:=by omega
  have e:L.take 8=L:=m_ (by omega);have q:=ib 8 L j;rw[e];generalize val L=x at q o hx;have K:wrap64 (x:Int)=x:=by unfold wrap64;omega
  go_wp2;go_ret;exact⟨x,rfl,o.out⟩
 have o:Hid (mp 0 w C cb v sh R 8):=⟨.inr ⟨A,rfl,a,c⟩,t⟩;clear a c t y hx;go_wp2_with fail;go_loop [3,5,12] (λn _ i=>n=.int .u64 0/\i=I 0) (λ_ _ _=>0)
 case atStart=>exact⟨rfl,rfl⟩
 obtain⟨rfl,rfl⟩:=hrel;go_wp2;go_ret;exact⟨0,rfl,o.out⟩
variable{size:Nat}{e:TypeId}
def fY (es:List Ed)(k:Nat):List UInt8:=be 1 es.length++(es.take k).flatMap edB
theorem vO (hk:k<es.length):fY es (k+1)=fY es k++txt es[k].1++txt es[k].2.1++txt es[k].2.2:=by
 rw[fY,fY,g_ hk,r_];simp[edB]
theorem qS (h:iA es)(k:Nat):(fY es k).length<=109:=by
 have a:=jy (es.take k) λx hx=>h.2 x (List.mem_of_mem_take hx);have b:=h.1;rw[l_] at a;rw[fY,a_,aC];omega
theorem aL.alloc (h:aL base w wr v v' n xs)(o:Obj):aL base w (wr.alloc o) v v' n xs:=by
 have a:=v_ wr o none;exact⟨h.row.alloc o,⟨a.os.trans h.grown.os,a.tape.trans h.grown.tape,a.output.trans h.grown.output,e_ h.grown.size a.size,λk hk hne=>(a.block k (h_ hk h.grown.size) (by simp)).trans (h.grown.block k hk hne)⟩,h.block⟩
theorem xI (h:w.ownsRow base e size v n xs){b:Nat}(hb:b<base\/w.heap.size<=b):v.ownBlock≠some b:=λe=>by
 have:=h.lt b e
 omega
def pI (base:Nat)(p:ByteArray)(X Y:List UInt8):Prop:=∀(v:Value) (w:World),w.ownsRow base 5 1 v X.length (bc X)->base<=w.heap.size->
 Calls prog 237 #[v,.string p] w λe w'=>∃v',e=.returned v'/\App base w w' v v' Y
theorem sX {p:ByteArray}{X Y:List UInt8}(h:Y=X++txt p)(hp:p.size<256)(hX:X.length<1099511627000):pI base p X Y:=λv w hr hb=>by
 subst h;exact Ak p hp v X base w hr hb hX
theorem xH (es:List Ed)(hsm:iA es)(b off cap:Nat)(v:Value)(l:List UInt8)(base:Nat)(w:World)(h:w.ownsRow base 5 1 v l.length (bc l))(hbase:base<=w.heap.size)(hlt:b<base)(h0:∀i (h:i<es.length),w.cell? ⟨b,off+i*3,none⟩=some (.string es[i].1))(h1:∀i (h:i<es.length),w.cell? ⟨b,off+i*3+1,none⟩=some (.string es[i].2.1))(h2:∀i (h:i<es.length),w.cell? ⟨b,off+i*3+2,none⟩=some (.string es[i].2.2))(hlen:l.length<1099511000000):
 c_ 197 #[v,s_ b off es.length cap] w λe w'=>∃v',e=.returned v'/\App base w w' v v' (l++fY es es.length):=by
 have aa:=hsm.1;have J:=qQ es.length (by omega) v l base w h hbase (by omega);have hm:(es.length:Int)%256=es.length:=by omega
 have m:=xI h (.inl hlt);clear h;go_enter func197,ntmps197;go_wp2_with (go_at_call 160;go_fit J;rintro e O ⟨K,rfl,c⟩)
 have G:Hid (App base w O v K (l++fY es 0)):=by
  show App base w O v K (l++fY es 0);rw[fY];simpa using c
 clear c J;go_loopw [0,6,14] (λbv _ iv wr=>∃k:Nat,k<=es.length/\iv=I k/\Hid (App base w wr v bv (l++fY es k))) (λ_ _ i _=>es.length-(intOf i).toNat)
 case atStart=>exact⟨0,k_ _,rfl,G⟩
 obtain⟨k,hk,rfl,c⟩:=hrel;clear G;by_cases hlk:k<es.length
 ·have ab:=e_ hbase (aL.grown c.out).size;have g0:=aL.keeps c.out (h0 k hlk) m;have g1:=aL.keeps c.out (h1 k hlk) m;have g2:=aL.keeps c.out (h2 k hlk) m;obtain⟨y0,y1,y2⟩:=hsm.2 _ (i_ hlk);have x:=qS hsm k;have a:=vO hlk;generalize t:fY es (k+1)=N at a;have R:=hd t;clear t h0 h1 h2;generalize fY es k=M at c x a;generalize es[k].1=p at g0 y0 a;generalize es[k].2.1=o at g1 y1 a;generalize es[k].2.2=n at g2 y2 a;obtain⟨j,d⟩:∃X,X=l++M:=⟨_,rfl⟩;obtain⟨q,f⟩:∃X,X=j++txt p:=⟨_,rfl⟩;obtain⟨r,g⟩:∃X,X=q++txt o:=⟨_,rfl⟩;have u:l++N=r++txt n:=by rw[g,f,d,a];simp
  have S:j.length=l.length+M.length:=by rw[d,a_]
  have T:q.length=j.length+(p.size+1):=by rw[f,a_,dV]
  have U:r.length=q.length+(o.size+1):=by rw[g,a_,dV]
  have Y:Hid (pI base p j q):=sX f (by omega) (by omega);have Z:Hid (pI base o q r):=sX g (by omega) (by omega);have T3:Hid (pI base n r (l++N)):=sX u (by omega) (by omega);rw[<-d] at c;have W:Hid (∀ob,(wr.alloc ob).ownsRow base 5 1 u0 j.length (bc j)):=λob=>p_ (aL.row c.out) ob;have B:=hd (xI (aL.row c.out) (.inr (b_ _)))
  have F:Hid (∀ob,base<=(wr.alloc ob).heap.size/\wr.heap.size<(wr.alloc ob).heap.size):=λob=>by
   show base<=_/\wr.heap.size<_;simp;omega
  have P:Hid (∀ob,App base w (wr.alloc ob) v u0 j):=λob=>aL.alloc c.out ob;clear c d f g u a S T U x
  go_wp2_with (first
   |(go_at_call 237;go_fit (Y.out u0 (wr.alloc _) (W.out _) (F.out _).1);rintro e y ⟨D,rfl,s⟩;have c1:y.cell? ⟨wr.heap.size,1,none⟩=some (.string o):=aL.keeps s (by simp) B.out;have c2:y.cell? ⟨wr.heap.size,2,none⟩=some (.string n):=aL.keeps s (by simp) B.out;have V:Hid (D.ownBlock≠some wr.heap.size):=aL.apart s (F.out _).2 B.out;have z:Hid (App base w y v D q):=aL.trans (P.out _) s;clear s)
   |(go_at_call 237;go_fit (Z.out D y (aL.row z.out) (e_ hbase (aL.grown z.out).size));rintro e E ⟨L,rfl,C⟩;have d2:E.cell? ⟨wr.heap.size,2,none⟩=some (.string n):=aL.keeps C c2 V.out;have A:Hid (App base w E v L r):=aL.trans z.out C;clear C)
   |(go_at_call 237;go_fit (T3.out L E (aL.row A.out) (e_ hbase (aL.grown A.out).size));rintro e w5 ⟨v5,rfl,H⟩;have Q:Hid (App base w w5 v v5 (l++N)):=aL.trans A.out H;clear H))
  exact⟨⟨k+1,hlk,by go_num,by rw[R.out];exact Q⟩,by simp[intOf];omega⟩
 obtain rfl:k=es.length:=by omega
 go_wp2;go_ret;exact⟨u0,rfl,c.out⟩
theorem uU {l:List UInt8}(h:BV w v l):(convert 114 9 v).run prog w=.ok (.string (bs l)) w:=by
 rcases h with ⟨rfl,rfl⟩|⟨g,a,b,rfl,_,_,_,c⟩
 ·kernel_rfl
 refine run_convert_bytes_back (P:=prog) _ _ _ 5 ⟨g,a,none⟩ b l underlying114 (by kernel_rfl) (by kernel_rfl) λj hj=>?_
 have e:(⟨g,a,none⟩:Addr).add j=⟨g,a+j,none⟩:=by
  unfold Addr.add;by_cases h:j=0
  ·subst h;simp
  simp[h]
 rw[e];exact c j hj
theorem kE (cb:Nat)(v:Value)(sh:Bool)(s:ByteArray)(rest R:List UInt8)(w:World)(hC:Cur w cb v sh)(hV:BV w v R)(hR:R=txt s++rest)(hs:s.size<256):
 c_ 239 #[Px cb] w λe w'=>e=.returned (.string s)/\(∃v',Cur w' cb v' sh/\BV w' v' rest/\v'.ownBlock=v.ownBlock)/\w.grownBy w' (some cb):=by
 have y:=vM cb v sh R w hC hV
 have a:R=[UInt8.ofNat s.size]++(s.data.toList++rest):=by
  rw[hR,txt,A_];simp[be,Nat.mod_eq_of_lt hs]
 have B:1<=R.length:=by rw[a];simp
 have l:val (R.take 1)=s.size:=by
  rw[a];simp[val];omega
 have d:R.drop 1=s.data.toList++rest:=by rw[a];rfl
 clear hC hV a hR;go_enter func239,ntmps239;go_wp2_with fail;refine y.mono ?_;rintro e I ⟨x,rfl,t,A⟩;rcases t with ⟨_,C,v',f,b,j⟩|⟨h,_⟩
 ·rw[l] at C;subst C;rw[d] at b;have z:=gD cb s.size v' sh _ I f b (by omega);have J:IntKind.u64.wrap (s.size:Int)=s.size:=gA (by omega) (by omega);have G:=hd A;have D:=hd j;clear f b y A j;go_wp2_with fail;refine z.mono ?_;rintro e N ⟨t,i⟩;rcases t with ⟨_,u,H,rfl,g,m,c,_,k⟩|⟨h,_⟩
  ·have E:(s.data.toList++rest).take s.size=s.data.toList:=by rw[List.take_left'];simp
   have F:(s.data.toList++rest).drop s.size=rest:=by rw[List.drop_left'];simp
   rw[E] at m;rw[F] at c;have r:=uU m;rw[uS] at r;have n:=hd g;have q:=hd c;have o:=hd i;have p:=hd k;obtain⟨K,M,L,rfl⟩:=m.form;clear z g c m i k;go_wp2;go_ret;exact⟨rfl,⟨H,n.out,q.out,p.out.trans D.out⟩,G.out.trans o.out⟩
  rw[a_] at h;simp at h;omega
 omega
variable{body:List UInt8}{base':Nat}
def eW (w w':World)(v:Value)(l:List UInt8):Prop:=w'.ownsRow w.heap.size 5 1 v l.length (bc l)/\Bl w w'
theorem cp (h:w.ownsRow base e size v n xs)(hb:base'<=base):w.ownsRow base' e size v n xs:=by
 refine⟨h.1,?_⟩;rcases h.2 with h|⟨g,a,b,c,d,f⟩
 ·exact .inl h
 exact .inr ⟨g,a,b,c,e_ hb d,f⟩
theorem eW.of {l:List UInt8}(h:App (w.heap.size+1) (w.alloc o) w' (Zn) v l):eW w w' v l:=by
 refine⟨cp (aL.row h) (Nat.le_succ _),?_⟩;have a:=aL.grown h;have b:Below (w.alloc o).heap.size (w.alloc o) w':=⟨a.os,a.tape,a.output,a.size,λk hk=>a.block k hk (by simp[Value.ownBlock])⟩;exact gC b
theorem af (w:World)(o:Obj):Bl w (w.alloc o):=(n_ _ _).alloc (b_ _) o
theorem jW (w:World)(base:Nat):w.ownsRow base 5 1 (Zn) ([]:List UInt8).length (bc []):=B_ _ _ _ _
theorem kH (kind lane id num:Nat)(pass:Bool)(ea:Option Addr)(en ec:Nat)(w:World)(hk:kind=2\/kind=5\/kind=6)(x:Nat)(hx:x=if kind=2 then id else num):
 c_ 159 #[.agg #[I kind,I lane,.slice ea en ec,I id,.bool pass,I num]] w λe w'=>∃v',e=.returned v'/\eW w w' v' (be 8 x):=by
 have c:Hid (∀o n,c_ 198 #[Zn,I ((n:Nat):Int)] (w.alloc o) λe w'=>∃v',e=.returned v'/\App (w.heap.size+1) (w.alloc o) w' (Zn) v' ([]++be 8 n)):=λo n=>sW n (Zn) [] (w.heap.size+1) (w.alloc o) (jW _ _) (by simp) (by decide);rcases hk with rfl|rfl|rfl
 ·obtain rfl:x=id:=by simpa using hx
  clear hx;go_enter func159,ntmps159;go_wp2_with (go_at_call 198;go_fit (c.out _ x);rintro e d ⟨b,rfl,a⟩);go_ret;exact⟨b,rfl,eW.of a⟩
 all_goals
  obtain rfl:x=num:=by simpa using hx
  clear hx;go_enter func159,ntmps159;go_wp2_with (go_at_call 198;go_fit (c.out _ x);rintro e d ⟨b,rfl,a⟩);go_ret;exact⟨b,rfl,eW.of a⟩
theorem mw (kind lane id num:Nat)(pass:Bool)(ea:Option Addr)(en ec:Nat)(w:World)(hk:kind=3\/kind=7):
 c_ 159 #[.agg #[I kind,I lane,.slice ea en ec,I id,.bool pass,I num]] w λe w'=>∃v',e=.returned v'/\eW w w' v' []:=by
 rcases hk with rfl|rfl
 all_goals
  go_enter func159,ntmps159;go_wp2;go_ret;exact⟨_,rfl,eW.of (aL.refl (jW _ _))⟩
theorem pJ (lane id num:Nat)(pass:Bool)(es:List Ed)(b off cap:Nat)(w:World)(hlane:lane<256)(hsm:iA es)(hlt:b<w.heap.size)(h0:∀i (h:i<es.length),w.cell? ⟨b,off+i*3,none⟩=some (.string es[i].1))(h1:∀i (h:i<es.length),w.cell? ⟨b,off+i*3+1,none⟩=some (.string es[i].2.1))(h2:∀i (h:i<es.length),w.cell? ⟨b,off+i*3+2,none⟩=some (.string es[i].2.2))(body:List UInt8)(hbody:body=eV lane es es.length++be 8 id):
 c_ 159 #[.agg #[.int .i64 1,.int .i64 lane,s_ b off es.length cap,.int .i64 id,.bool pass,.int .i64 num]] w λe w'=>∃v',e=.returned v'/\eW w w' v' body:=by
 have E:(lane:Int)%256=lane:=by omega
 have v:Hid (∀o,c_ 160 #[.slice none 0 0,.int .u8 (lane:Int)] (w.alloc o) λe w'=>∃v',e=.returned v'/\App (w.heap.size+1) (w.alloc o) w' (.slice none 0 0) v' ([]++be 1 lane)):=λo=>qQ lane hlane (.slice none 0 0) [] (w.heap.size+1) (w.alloc o) (jW _ _) (by simp) (by decide);have x:=qS hsm es.length
 have c:Hid (([]++be 1 lane++fY es es.length)++be 8 id=body):=by
  show _=_;rw[hbody,eV,fY];simp
 have g:Hid ((Value.slice none 0 0).ownBlock≠some b):=by show _≠_;simp[Value.ownBlock]
 have j:Hid ((Value.slice none 0 0).ownBlock≠some w.heap.size):=by show _≠_;simp[Value.ownBlock]
 have m:([]++be 1 lane:List UInt8).length=1:=by simp[aC]
 have s:([]++be 1 lane++fY es es.length:List UInt8).length<1099511627776:=by rw[a_,m];omega
 clear hbody hlane;go_enter func159,ntmps159
 go_wp2_with (first
  |(go_at_call 160;go_fit (v.out _);rintro e k ⟨q,rfl,f⟩;have l:Hid _:=f;have t:k.cell? ⟨w.heap.size,2,none⟩=some (s_ b off es.length cap):=aL.keeps f (by simp) j.out;have n:k.cell? ⟨w.heap.size,3,none⟩=some (.int .i64 id):=aL.keeps f (by simp) j.out;have z:Hid (q.ownBlock≠some w.heap.size):=aL.apart f (by simp) j.out)
  |fail)
 have a:=l.out
 have p:=xH es hsm b off cap q ([]++be 1 lane) (w.heap.size+1) k (aL.row a) (e_ (by simp) (aL.grown a).size) (by omega)
  (λi hi=>aL.keeps a (ae (af _ _) (h0 i hi)) g.out) (λi hi=>aL.keeps a (ae (af _ _) (h1 i hi)) g.out) (λi hi=>aL.keeps a (ae (af _ _) (h2 i hi)) g.out) (by rw[m];decide)
 refine p.mono ?_;rintro e C ⟨A,rfl,d⟩;have D:=aL.keeps d n z.out;have u:=sW id A ([]++be 1 lane++fY es es.length) (w.heap.size+1) C (aL.row d) (e_ (by simp) (e_ (aL.grown a).size (aL.grown d).size)) s;have r:=hd (aL.trans a d);clear p d a l t n;go_wp2_with (go_at_call 198;go_fit u;rintro e F ⟨B,rfl,y⟩);go_ret;refine⟨B,rfl,?_⟩;have:=eW.of (aL.trans r.out y);rwa [c.out] at this
theorem jV:(be 1 k++be 4 body.length++body).length=5+body.length:=by
 rw[a_,a_,aC,aC]
variable{row:Option Nat}
theorem Ao:(prog.info? 49).map (λi=>(i.zero,i.size,i.bytes))=some (some (.agg #[.string ⟨#[]⟩,.string ⟨#[]⟩,.string ⟨#[]⟩]),3,48):=by kernel_rfl
theorem du.grown {g:Nat}(h:du w g n k es)(hg:w.grownBy w' (some cb))(hne:g≠cb):du w' g n k es:=by
 have a:=hg.block g h.1 (λe=>hne (by simpa using e));refine⟨h_ h.1 hg.size,λj hj=>⟨?_,?_⟩,λi hi hk=>?_⟩
 ·obtain⟨v,f⟩:=(h.2.1 j hj).1;exact⟨v,(L_ (w:=w) a).trans f⟩
 ·rw[<-(h.2.1 j hj).2];simp[World.frozen?,a]
 obtain⟨b,c,d⟩:=h.2.2 i hi hk;exact⟨(L_ (w:=w) a).trans b,(L_ (w:=w) a).trans c,(L_ (w:=w) a).trans d⟩
theorem bX (h:w.grownBy wr row){b:Nat}(hb:w.heap.size<=b)(o:Nat)(u:Value):w.grownBy (wr.setCell ⟨b,o,none⟩ u) row:=
 ⟨h.os,h.tape,h.output,by simpa[World.setCell] using h.size,λk hk hne=>by
  rw[(ah wr b o u).block k (h_ hk h.size) (λe=>by cases e;omega),h.block k hk hne]⟩
theorem Cur.other (h:Cur w cb v sh){b:Nat}(hb:b≠cb)(o:Nat)(u:Value):Cur (w.setCell ⟨b,o,none⟩ u) cb v sh:=
 ((ah w b o u).block cb (j_.1 h).1 (λe=>hb (by simpa using e.symm))).trans h
theorem BV.other (h:BV w v R){b:Nat}(hb:v.ownBlock≠some b)(o:Nat)(u:Value):BV (w.setCell ⟨b,o,none⟩ u) v R:=by
 rcases h with h|⟨g,c,a,rfl,d,f,j,k⟩
 ·exact .inl h
 exact .inr ⟨g,c,a,rfl,d,f,by simpa[World.setCell] using j,λi hi=>(ah w b o u).cell (k i hi) (λe=>hb e)⟩
theorem BV.grown (h:BV w v R)(hg:w.grownBy w' none):BV w' v R:=h.later ⟨hg.os,hg.tape,hg.output,hg.size,λk hk=>hg.block k hk (by simp)⟩
theorem Cur.grown (h:Cur w cb v sh)(hg:w.grownBy w' none):Cur w' cb v sh:=(hg.block cb (j_.1 h).1 (by simp)).trans h
theorem sY (cb:Nat)(v:Value)(sh:Bool)(es:List Ed)(rest R:List UInt8)(w:World)(hC:Cur w cb v sh)(hV:BV w v R)(hR:R=fY es es.length++rest)(hsm:iA es):
 Calls prog 202 #[Px cb] w λe w'=>(∃g,e=.returned (.slice (some ⟨g,0,none⟩) es.length es.length)/\w.heap.size<=g/\du w' g es.length es.length es)/\(∃v',Cur w' cb v' sh/\BV w' v' rest/\v'.ownBlock=v.ownBlock)/\w.grownBy w' (some cb):=by
 obtain⟨i0,hi,ab,ac,ad⟩:=info_parts Ao;have ah:=hsm.1;have hN:=vM cb v sh R w hC hV
 have m:R=[UInt8.ofNat es.length]++(es.flatMap edB++rest):=by
  rw[hR,fY,W_,A_];simp[be,Nat.mod_eq_of_lt (show es.length<256 by omega)]
 have ae:1<=R.length:=by rw[m];simp
 have W:val (R.take 1)=es.length:=by
  rw[m];simp[val];omega
 have u:R.drop 1=es.flatMap edB++rest:=by rw[m];rfl
 have q2:i0.bytes*es.length<=281474976710656:=by rw[ad];omega
 have q3:es.length<=maxLen:=by unfold maxLen;omega
 have ag:cb<w.heap.size:=(j_.1 hC).1
 have aa:Hid (∀b,w.heap.size<=b->v.ownBlock≠some b):=λb hb=>by
  rcases hV with ⟨_,rfl⟩|⟨g,ai,af,rfl,_,_,X,_⟩
  ·simp[Value.ownBlock]
  intro e;have:g=b:=by simpa[Value.ownBlock] using e
  omega
 clear hC hV m hR;go_enter func202,ntmps202;go_wp2_with fail;refine hN.mono ?_;rintro e Z ⟨x,rfl,Y,X⟩;rcases Y with ⟨_,hx,v',E,t,V⟩|⟨h,_⟩
 ·rw[W] at hx;subst hx;rw[u] at t;have C:=hd E;have D:=hd t;have HG:=hd X;have B:=X.size;clear E t X hN;go_wp2_with (at_make;refine wpList_make_full _ rfl _ _ _ rfl Z.heap.size _ i0 _ 3 underlying27 hi ab ac _ _ _ _ es.length rfl rfl (by omega) (by omega) q2 q3 (b_ _) ?_;intro w2 hrow2 hg2);have H2:du w2 Z.heap.size es.length 0 es:=du.made hrow2;have hS:Hid (∃f,Cur w2 cb f sh/\BV w2 f ((es.drop 0).flatMap edB++rest)/\f.ownBlock=v.ownBlock):=⟨v',C.out.grown hg2,D.out.grown hg2,V⟩;have J:=hd (HG.out.trans ⟨hg2.os,hg2.tape,hg2.output,hg2.size,λk Y _=>hg2.block k Y (by simp)⟩);have c:Z.heap.size≠cb:=by omega
  clear C D HG hrow2 hg2 V q2 q3;generalize Z.heap.size=g at H2 c B;go_loopw [4,10] (λ_ iv wr=>∃k:Nat,k<=es.length/\iv=I k/\Hid (du wr g es.length k es)/\Hid (∃f,Cur wr cb f sh/\BV wr f ((es.drop k).flatMap edB++rest)/\f.ownBlock=v.ownBlock)/\Hid (w.grownBy wr (some cb))) (λ_ i _=>es.length-(intOf i).toNat)
  case atStart=>exact⟨0,k_ _,rfl,H2,hS,J⟩
  obtain⟨k,Y,rfl,hH,s,hG⟩:=hrel;clear hS J H2;by_cases hlk:k<es.length
  ·obtain⟨f,j,a,l⟩:=s.out
   have hd:(es.drop k).flatMap edB++rest=txt es[k].1++(txt es[k].2.1++(txt es[k].2.2++((es.drop (k+1)).flatMap edB++rest))):=by
    rw[M_ hlk,F_,edB];simp
   obtain⟨y0,y1,y2⟩:=hsm.2 _ (i_ hlk);have d:Hid (∀w',du w' g es.length k es->du (((w'.setCell ⟨g,k*3,none⟩ (.string es[k].1)).setCell ⟨g,k*3+1,none⟩ (.string es[k].2.1)).setCell ⟨g,k*3+2,none⟩ (.string es[k].2.2)) g es.length (k+1) es):=λw' h=>h.set hlk rfl;rw[hd] at a;clear hd s;generalize hT:(es.drop (k+1)).flatMap edB++rest=T at a;have HT:=hd hT;clear hT;generalize es[k].1=p at a y0 d;generalize es[k].2.1=o at a y1 d;generalize es[k].2.2=n at a y2 d;have N:=kE cb f sh p _ _ wr j a rfl (by omega);have O2:=hd l;clear j a l;go_wp2_with fail;refine N.mono ?_;rintro e w3 ⟨rfl,⟨v3,F,Q,K⟩,y⟩;have O:=kE cb v3 sh o _ _ w3 F Q rfl (by omega);have O3:=hd (K.trans O2.out);have H3:=hd (hH.out.grown y c);have G3:=hd (hG.out.trans y);clear F Q K N y O2 hH hG;go_wp2_with fail;refine O.mono ?_;rintro e w4 ⟨rfl,⟨v4,G,S,L⟩,z⟩;have P:=kE cb v4 sh n _ _ w4 G S rfl (by omega);have O4:=hd (L.trans O3.out);have H4:=hd (H3.out.grown z c);have G4:=hd (G3.out.trans z);clear G S L O z O3 H3 G3;go_wp2_with fail;refine P.mono ?_;rintro e w5 ⟨rfl,⟨v5,H,U,M⟩,A⟩;have O5:=hd (M.trans O4.out);have r:=hd (H4.out.grown A c);have G5:=hd (G4.out.trans A);have C5:=hd H;have V5:=hd U;have z0:=(r.out.2.1 (k*3) (by omega)).2;have z1:=(r.out.2.1 (k*3+1) (by omega)).2;have z2:=(r.out.2.1 (k*3+2) (by omega)).2;obtain⟨u0,x0⟩:=(r.out.2.1 (k*3) (by omega)).1;obtain⟨u1,x1⟩:=(r.out.2.1 (k*3+1) (by omega)).1;obtain⟨u2,x2⟩:=(r.out.2.1 (k*3+2) (by omega)).1;clear H U M P A O4 H4 G4;have q:w.heap.size<=g:=B
   have nv:Hid (v5.ownBlock≠some g):=by
    show v5.ownBlock≠some g;rw[O5.out];exact aa.out g q
   go_wp2_with fail;have HN:=d.out _ r.out;refine⟨⟨k+1,hlk,by go_num,HN,⟨v5,((C5.out.other c _ _).other c _ _).other c _ _,?_,O5.out⟩,bX (bX (bX G5.out q _ _) q _ _) q _ _⟩,by simp[intOf];omega⟩;rw[HT.out];exact((V5.out.other nv.out _ _).other nv.out _ _).other nv.out _ _
  obtain rfl:k=es.length:=by omega
  go_wp2_with fail;go_ret;obtain⟨f,j,a,l⟩:=s.out;rw[List.drop_length] at a;exact⟨⟨g,rfl,B,hH.out⟩,⟨f,j,by simpa using a,l⟩,hG.out⟩
 omega
theorem fL (h:w.ownsRow base e size v n xs):∃a cap,v=.slice a n cap:=by
 rcases h.2 with ⟨rfl,rfl⟩|⟨c,cap,b,rfl,_,d,_⟩
 ·exact⟨_,_,rfl⟩
 exact⟨_,_,rfl⟩
theorem lO (w:World)(t ty e:TypeId)(i:TypeInfo)(ht:P.underlying t=some (.slice e))(hi:P.info? e=some i)(g n cap:Nat)(a:Option Addr)(c:Nat)(hn:n<=cap):
 (Builtin.append_ #[t,t] ty #[s_ g 0 n cap,.slice a 0 c]).run P w=.ok (s_ g 0 n cap) w:=by
 have b:∀a,Sem.run P (loadCells a 0) w=.ok #[] w:=λa=>run_loadCells_list (P:=P) w a [] (by simp);cases a<;>simp[Builtin.append_,run_underlying ht,sizeOf,typeInfo,hi,Builtin.lenOf,Builtin.firstCells,hn,storeCells,b]
theorem jY (w:World){ops:Array Oper}{rest:List Oper}{o:Oper}{a:Act}{Q:Exit->Act->World->Prop}(hgd:o.guard=none)(s x:Operand)(t:TypeId)(ho:o.op=.call {callee:=.builtin .append,args:=#[s,x],argTypes:=#[t,t]})(base:Nat)(e:TypeId)(i:TypeInfo)(z:Value)(ht:P.underlying t=some (.slice e))(hi:P.info? e=some i)(hz:i.zero=some z)(hsize:i.size=1)(hby:i.bytes=1)(hzs:z.cells.size=1)(v:Value)(n:Nat)(xs:List Value)(hs:a.eval s=v)(hown:w.ownsRow base e 1 v n xs)(hpos:0<n)(base':Nat)(u:Value)(m:Nat)(aQ:List Value)(hx:a.eval x=u)(hsrc:w.ownsRow base' e 1 u m aQ)(h1:∀y∈aQ,y.oneCell'=true)(h63:n+m<=maxLen)(hbytes:(n+m)*1<=140737488355328)(hbase:base<=w.heap.size)(h:∀v' w',w'.ownsRow base e 1 v' (n+m) (xs++aQ)->w.grownBy w' v.ownBlock->(v'.ownBlock=v.ownBlock\/v'.ownBlock=some w.heap.size)->wpList P ops Q rest (a.put o.dst v') w'):wpList P ops Q (o::rest) a w:=by
 rcases hsrc.2 with ⟨rfl,rfl⟩|⟨j,b,f,rfl,r,C,p,k,l,E⟩
 ·obtain rfl:aQ=[]:=I_ (by simpa using hsrc.1);rcases hown.2 with ⟨_,G⟩|⟨g,c,q,rfl,H,I,d,A,B,F⟩
  ·omega
  refine wpList_plain hgd λK hK=>?_;have D:=lO (P:=P) w t o.type e i ht hi g n c none 0 d;unfold Oper.wp execOp;simp only[ho,resolve,invoke,builtin,Sem.run_bind,Sem.run_pure,Result.andThen_ok,List.map_toArray,C_,List.map_nil,hs,hx,D];exact hK _ _ (h _ w (by simpa using hown) (World.grownBy.refl _ _) (.inl rfl))
 exact wpList_append_own_at w hgd s x t ho base e i z 1 1 ht hi hz hsize hby hzs (by decide) v n xs hs hown ⟨j,0,none⟩ m b aQ hx (by simpa using hsrc.1) (hsrc.cells (g:=j) rfl) h1 h63 hbytes hbase λv' w' a1 a2 _ a4=>h v' w' a1 a2 a4
theorem vQ (kind:Nat)(lane id num:Nat)(pass:Bool)(ea:Option Addr)(en ec:Nat)(body s:List UInt8)(w:World)(hk:kind<256)(hbl:body.length<1000)(hs:s=be 1 kind++be 4 body.length++body)(hB:Hid (∀w',Bl w w'->c_ 159 #[.agg #[I kind,I lane,.slice ea en ec,I id,.bool pass,I num]] w' λe w''=>∃v',e=.returned v'/\eW w' w'' v' body)):
 c_ 112 #[.agg #[I kind,I lane,.slice ea en ec,I id,.bool pass,I num]] w λe w'=>∃v',e=.returned v'/\eW w w' v' (s++be 4 (bO s)):=by
 obtain⟨M,L,o,p,q⟩:=info_parts g8;have n:s.length=5+body.length:=by rw[hs];exact jV
 go_enter func112,ntmps112;go_wp2_with fail;refine(hB.out _ (af w _)).mono ?_;rintro e b ⟨U,rfl,d⟩;obtain⟨m,a,rfl⟩:=fL d.1
 have A:Hid (b.ownsRow (w.heap.size+1) 5 1 (.slice m body.length a) body.length (bc body)):=by
  have:=d.1;show b.ownsRow (w.heap.size+1) 5 1 (.slice m body.length a) body.length (bc body);simpa using this
 have u:=hd (gC d.2);have G:b.cell? ⟨w.heap.size,0,none⟩=some (I kind):=ae d.2 (by simp);have C:=qQ kind hk (Zn) [] b.heap.size b (jW _ _) (b_ _) (by decide);clear d;go_wp2_with (go_at_call 160;go_fit C;rintro e T ⟨R,rfl,i⟩);have D:=xG body.length R ([]++be 1 kind) b.heap.size T (aL.row i) (aL.grown i).size (by simp[aC]);have x:=hd i;clear i C G;refine D.mono ?_;rintro e r ⟨j,rfl,B⟩;have c:=hd (aL.trans x.out B);have z:=hd (t_ A.out (aL.grown c.out) (by simpa[Value.ownBlock] using Classical.em _));have F:([]++be 1 kind++be 4 body.length:List UInt8).length=5:=by simp[aC]
 have v:Hid ([]++be 1 kind++be 4 body.length++body=s):=by
  show _=_;rw[hs,List.nil_append]
 have O:Hid (5+body.length<=maxLen):=by show _<=_;unfold maxLen;omega
 have P:Hid ((5+body.length)*1<=140737488355328):=by show _<=_;omega
 have Q:=hd ((aL.grown c.out).size)
 have E:Hid (r.ownsRow b.heap.size 5 1 j 5 (bc ([]++be 1 kind++be 4 body.length))):=by
  have:=aL.row c.out;rwa [F] at this
 have N:(0:Nat)<5:=by decide
 clear D B x A hs;go_wp2_with (at_builtin;refine jY _ rfl _ _ _ rfl b.heap.size _ M _ underlying114 L o p q rfl j 5 _ rfl E.out N (w.heap.size+1) (.slice m body.length a) _ _ rfl z.out (sV body) O.out P.out Q.out ?_;intro v5 w5 ho5 hg5 hl5;have y:=hd ho5;have l:Hid (r.grownBy w5 j.ownBlock/\(v5.ownBlock=j.ownBlock\/v5.ownBlock=some r.heap.size)):=⟨hg5,hl5⟩;clear ho5 hg5 hl5;go_frame)
 have g:Hid (App b.heap.size b w5 (Zn) v5 s):=by
  refine aL.trans c.out ⟨?_,l.out.1,?_⟩
  ·have:=y.out;rwa [<-eF,v.out,<-n] at this
  rcases l.out.2 with h|h
  ·exact .inl h
  exact .inr ⟨_,h,b_ _⟩
 have J:=qP s v5 w5 (jU.of_row (aL.row g.out)) (by omega);have K:=xG (bO s) v5 s b.heap.size w5 (aL.row g.out) (aL.grown g.out).size (by omega);clear c y l E z v
 go_wp2_with (first
  |(go_at_call 162;go_fit J;rintro e w' ⟨rfl,rfl⟩)
  |(go_at_call 161;go_fit K;rintro e V ⟨S,rfl,H⟩))
 go_ret;have t:=aL.trans g.out H;refine⟨S,rfl,cp (aL.row t) u.out.size,?_⟩;have f:=aL.grown t;exact aK u.out ⟨f.os,f.tape,f.output,f.size,λk hk=>f.block k hk (by simp[Value.ownBlock])⟩
variable{B:Nat}{t:TypeId}{a0 a1 a2 a3:Value}{W:World}
def Bx (w:World)(b:Nat)(t:TypeId)(cs:Array Value):Prop:=w.heap[b]? =some (.cells cs t (0,0))
theorem Bx.cell (h:Bx w b t cs){i:Nat}{v:Value}(hv:cs[i]? =some v):w.cell? ⟨b,i,none⟩=some v:=by
 unfold Bx at h;simp[World.cell?,h,hv]
theorem Bx.c {w:World}{b:Nat}{t:TypeId}{cs:Array Value}(h:Bx w b t cs)(i:Nat)(v:Value)(hv:cs[i]?=some v:=by rfl):w.cell? ⟨b,i,none⟩=some v:=h.cell hv
theorem Bx.fr (h:Bx w b t cs)(i:Nat):w.frozen? ⟨b,i,none⟩=false:=by
 unfold Bx at h;simp[World.frozen?,h]
theorem Bx.new (w:World)(cs:Array Value)(t:TypeId):Bx (w.alloc (.cells cs t)) w.heap.size t cs:=by
 show (w.heap.push _)[w.heap.size]? =_;simp
theorem Bx.lt (h:Bx w b t cs):b<w.heap.size:=(j_.1 h).1
theorem Bx.grown (h:Bx w b t cs)(hg:w.grownBy w' row)(hne:some b≠row):Bx w' b t cs:=(hg.block b h.lt hne).trans h
theorem Bx.mk (h:Bx w b t cs)(o:Obj):Bx (w.alloc o) b t cs:=h.grown (v_ w o none) (by simp)
theorem Bx.set (h:Bx w b t cs)(i:Nat)(u:Value):Bx (w.setCell ⟨b,i,none⟩ u) b t (cs.setIfInBounds i u):=by
 unfold Bx at h ⊢;simp[World.setCell,Array.getElem?_modify,h]
theorem Bx.other {c:Nat}(h:Bx w b t cs)(hne:c≠b)(i:Nat)(u:Value):Bx (w.setCell ⟨c,i,none⟩ u) b t cs:=h.grown (ah w c i u) (λe=>hne (by simpa using e.symm))
theorem Bx.set6 {a4 a5:Value}(h:Bx w b t #[a0,a1,a2,a3,a4,a5])(x0 x1 x2 x3 x4 x5:Value):Bx ((((((w.setCell ⟨b,0,none⟩ x0).setCell ⟨b,1,none⟩ x1).setCell ⟨b,2,none⟩ x2).setCell ⟨b,3,none⟩ x3).setCell ⟨b,4,none⟩ x4).setCell ⟨b,5,none⟩ x5) b t #[x0,x1,x2,x3,x4,x5]:=by
 have c:=h.set 0 x0;have d:=c.set 1 x1;have e:=d.set 2 x2;have f:=e.set 3 x3;have g:=f.set 4 x4;have a:=g.set 5 x5;simp only[P_,List.set_cons_zero,List.set_cons_succ] at a;exact a
theorem ch (h:Bl w W)(hg:W.grownBy w1 (some b))(hb:w.heap.size<=b):Bl w w1:=
 h.trans ⟨hg.os,hg.tape,hg.output,hg.size,λk hk=>hg.block k (h_ hk h.size) (λe=>by
  have:k=b:=by simpa using e
  omega)⟩
theorem ao (h:Below B w wr){b:Nat}(hb:B<=b)(o:Nat)(u:Value):Below B w (wr.setCell ⟨b,o,none⟩ u):=h.setCell hb u
def eD:Array Value:=#[I 0,I 0,Zn,I 0,.bool false,I 0]
theorem vP (kind:Nat)(v:Value)(w:World)(hk:kind=3\/kind=7)(hv:∃a n c,v=.slice a n c):
 Calls prog 166 #[I kind,v] w λe w'=>e=.returned (.agg #[I kind,I 0,Zn,I 0,.bool false,I 0])/\Bl w w':=by
 obtain⟨a,n,c,rfl⟩:=hv;rcases hk with rfl|rfl
 all_goals
  go_enter func166,ntmps166;go_wp2;refine bodyPost_ret (by simp[results,results166,go_sem];rfl) rfl ⟨by rfl,?_⟩;exact aK (aK (af _ _) (af _ _)) (af _ _)
def W3 (w:World)(kind:Nat)(v:Value):World:=((w.alloc (.cells eD 140)).alloc (.cells #[I kind,I 0,Zn,I 0,.bool false,I 0] 140)).alloc (.cells #[v,.bool false] 205)
theorem W3.below (w:World)(kind:Nat)(v:Value):Bl w (W3 w kind v):=aK (aK (af _ _) (af _ _)) (af _ _)
theorem W3.b0 (w:World)(kind:Nat)(v:Value):Bx (W3 w kind v) w.heap.size 140 eD:=((Bx.new w _ _).mk _).mk _
theorem W3.b1 (w:World)(kind:Nat)(v:Value):Bx (W3 w kind v) (w.heap.size+1) 140 #[I kind,I 0,Zn,I 0,.bool false,I 0]:=by
 have:=(Bx.new (w.alloc (.cells eD 140)) #[I kind,I 0,Zn,I 0,.bool false,I 0] 140).mk (.cells #[v,.bool false] 205);simpa[W3] using this
theorem W3.cur (w:World)(kind:Nat)(v:Value):Cur (W3 w kind v) (w.heap.size+1+1) v false:=by
 have:=Bx.new ((w.alloc (.cells eD 140)).alloc (.cells #[I kind,I 0,Zn,I 0,.bool false,I 0] 140)) #[v,.bool false] 205;simpa[W3,Cur,Bx] using this
theorem xJ (kind x:Nat)(v:Value)(w:World)(hk:kind=2\/kind=5\/kind=6)(hx:x<9223372036854775808)(hV:BV w v (be 8 x)):
 Calls prog 166 #[I kind,v] w λe w'=>e=.returned (.agg #[I kind,I 0,Zn,I (if kind=2 then x else 0),.bool false,I (if kind=2 then 0 else x)])/\Bl w w':=by
 obtain⟨a,n,c,rfl⟩:=hV.form;have j:(be 8 x).take 8=be 8 x:=m_ (by rw[aC];exact b_ _);have k:val (be 8 x)=x:=by rw[ie];exact Nat.mod_eq_of_lt (by omega)
 have o:=xF (w.heap.size+1+1) _ false _ _ (W3.cur w kind (.slice a n c)) (hV.later (W3.below w kind _)) (by rw[j,k];exact hx);rcases hk with rfl|rfl|rfl
 ·go_enter func166,ntmps166;go_wp2_with fail;go_fit o;rintro e P ⟨y,rfl,hk,l⟩
  obtain rfl:y=x:=by
   rcases hk with ⟨_,h,_⟩|⟨h,_⟩
   ·rw[h,j,k]
   rw[aC] at h;omega
  have d:=(W3.b1 w 2 (.slice a n c)).grown l (by simp);have b:=(W3.b0 w 2 (.slice a n c)).grown l (by simp;omega);have p:=hd (ch (W3.below w 2 (.slice a n c)) l (by omega));have A:=d.cell (i:=0) rfl;have B:=d.cell (i:=1) rfl;have C:=d.cell (i:=2) rfl;have D:=d.cell (i:=3) rfl;have E:=d.cell (i:=4) rfl;have F:=d.cell (i:=5) rfl;have G:=d.fr 3;have H:=b.cell (i:=0) rfl;have J:=b.cell (i:=1) rfl;have K:=b.cell (i:=2) rfl;have L:=b.cell (i:=3) rfl;have M:=b.cell (i:=4) rfl;have N:=b.cell (i:=5) rfl;have O:=b.fr;have m:=hd b;clear o hk l d b hV j k;go_wp2;have g:=Bx.set6 (m.out.other (c:=w.heap.size+1) (by omega) 3 (I y)) (I 2) (I 0) (Zn) (I y) (.bool false) (I 0);have q:=g.cell (i:=0) rfl;have r:=g.cell (i:=1) rfl;have s:=g.cell (i:=2) rfl;have t:=g.cell (i:=3) rfl;have u:=g.cell (i:=4) rfl;have z:=g.cell (i:=5) rfl;refine bodyPost_ret (by simp[results,results166,go_sem,q,r,s,t,u,z]) rfl ⟨rfl,?_⟩;have f:=b_ w.heap.size;exact ao (ao (ao (ao (ao (ao (ao p.out (Nat.le_succ _) _ _) f _ _) f _ _) f _ _) f _ _) f _ _) f _ _
 ·go_enter func166,ntmps166;go_wp2_with fail;go_fit o;rintro e P ⟨y,rfl,hk,l⟩
  obtain rfl:y=x:=by
   rcases hk with ⟨_,h,_⟩|⟨h,_⟩
   ·rw[h,j,k]
   rw[aC] at h;omega
  have d:=(W3.b1 w 5 (.slice a n c)).grown l (by simp);have b:=(W3.b0 w 5 (.slice a n c)).grown l (by simp;omega);have p:=hd (ch (W3.below w 5 (.slice a n c)) l (by omega));have A:=d.cell (i:=0) rfl;have B:=d.cell (i:=1) rfl;have C:=d.cell (i:=2) rfl;have D:=d.cell (i:=3) rfl;have E:=d.cell (i:=4) rfl;have F:=d.cell (i:=5) rfl;have G:=d.fr 5;have H:=b.cell (i:=0) rfl;have J:=b.cell (i:=1) rfl;have K:=b.cell (i:=2) rfl;have L:=b.cell (i:=3) rfl;have M:=b.cell (i:=4) rfl;have N:=b.cell (i:=5) rfl;have O:=b.fr;have m:=hd b;clear o hk l d b hV j k;go_wp2;have g:=Bx.set6 (m.out.other (c:=w.heap.size+1) (by omega) 5 (I y)) (I 5) (I 0) (Zn) (I 0) (.bool false) (I y);have q:=g.cell (i:=0) rfl;have r:=g.cell (i:=1) rfl;have s:=g.cell (i:=2) rfl;have t:=g.cell (i:=3) rfl;have u:=g.cell (i:=4) rfl;have z:=g.cell (i:=5) rfl;refine bodyPost_ret (by simp[results,results166,go_sem,q,r,s,t,u,z]) rfl ⟨rfl,?_⟩;have f:=b_ w.heap.size;exact ao (ao (ao (ao (ao (ao (ao p.out (Nat.le_succ _) _ _) f _ _) f _ _) f _ _) f _ _) f _ _) f _ _
 go_enter func166,ntmps166;go_wp2_with fail;go_fit o;rintro e P ⟨y,rfl,hk,l⟩
 obtain rfl:y=x:=by
  rcases hk with ⟨_,h,_⟩|⟨h,_⟩
  ·rw[h,j,k]
  rw[aC] at h;omega
 have d:=(W3.b1 w 6 (.slice a n c)).grown l (by simp);have b:=(W3.b0 w 6 (.slice a n c)).grown l (by simp;omega);have p:=hd (ch (W3.below w 6 (.slice a n c)) l (by omega));have A:=d.cell (i:=0) rfl;have B:=d.cell (i:=1) rfl;have C:=d.cell (i:=2) rfl;have D:=d.cell (i:=3) rfl;have E:=d.cell (i:=4) rfl;have F:=d.cell (i:=5) rfl;have G:=d.fr 5;have H:=b.cell (i:=0) rfl;have J:=b.cell (i:=1) rfl;have K:=b.cell (i:=2) rfl;have L:=b.cell (i:=3) rfl;have M:=b.cell (i:=4) rfl;have N:=b.cell (i:=5) rfl;have O:=b.fr;have m:=hd b;clear o hk l d b hV j k;go_wp2;have g:=Bx.set6 (m.out.other (c:=w.heap.size+1) (by omega) 5 (I y)) (I 6) (I 0) (Zn) (I 0) (.bool false) (I y);have q:=g.cell (i:=0) rfl;have r:=g.cell (i:=1) rfl;have s:=g.cell (i:=2) rfl;have t:=g.cell (i:=3) rfl;have u:=g.cell (i:=4) rfl;have z:=g.cell (i:=5) rfl;refine bodyPost_ret (by simp[results,results166,go_sem,q,r,s,t,u,z]) rfl ⟨rfl,?_⟩;have f:=b_ w.heap.size;exact ao (ao (ao (ao (ao (ao (ao p.out (Nat.le_succ _) _ _) f _ _) f _ _) f _ _) f _ _) f _ _) f _ _
end
end Go.Proofs.YtgamgomepdfgdaaGreat
