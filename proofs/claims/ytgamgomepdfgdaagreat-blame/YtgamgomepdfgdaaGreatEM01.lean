import Derived.Test.YtgamgomepdfgdaaGreatProg
import Derived.Below
import Derived.OrdersHeld
import Derived.WalkKit
import Derived.Deep.RegionHeldLaw
import Derived.Lib.Bytealg
import Derived.Lib.Strings
import Derived.WalkSpells
import Derived.Deep.Draws
import Derived.WalkLawsBesides
import Derived.Laws.IdiomStrings
import Derived.Laws.Tables
import Derived.Deep.DeepFit
import Derived.Maps.AppendAt
import Derived.Lib.EndianBits
set_option maxRecDepth 100000
set_option maxHeartbeats 8000000
namespace Go.Proofs.YtgamgomepdfgdaaGreat
open Go.RowKit Go.Proofs.Tryz
abbrev I (n : Int) : Value := .int .i64 n
abbrev Px (b : Nat) : Value := .pointer (some ⟨b, 0, none⟩)
abbrev Zn : Value := .slice none 0 0
abbrev Bl (w w' : World) : Prop := Below w.heap.size w w'
abbrev z_ (w : World) : Nat := w.heap.size
abbrev s_ (g o n c : Nat) : Value := .slice (some ⟨g, o, none⟩) n c
abbrev c_ (f : Nat) (args : Array Value) (w : World) (R : Ending → World → Prop) : Prop := Calls prog f args w R
theorem hd {p : Prop} (h : p) : Hid p := h
theorem tk {P : Program} {ops : Array Oper} {Q : Exit → Act → World → Prop} {md : Region.Mode} {S : World → Prop} (i : Nat) {oi : Oper} {v : Value} {fuel : Nat} {listed : Array Bool} {a a' : Act} {w : World}
    (h : wpAnyH P md ops Q S fuel (listed.setIfInBounds i true) a' w) (hi : ops[i]? = some oi := by exact rfl) (hs : Region.noSelect ops = true := by kernel_rfl) (hf : Region.free md ops listed i = true := by kernel_rfl) (hr : (Region.ready md ops listed).contains i = true := by kernel_rfl)
    (hy1 : Region.wanted oi (yielded ops a.tmps) = true := by rfl) (hy2 : ∀ w, S w → (execOp a.eval oi).run P w = .ok (.value v) w := by (intro w9 hSw; (try dsimp only at hSw); go_simp <;> with_reducible rfl))
    (hQ : ∀ c b u, Q (.panic c) (b.put oi.dst v) u → Q (.panic c) b u := by exact fun _ _ _ h => h) (hS : S w := by assumption)
    (ha : a.put oi.dst v = a' := by ((try simp only [Act.put, List.getElem_toArray, List.getElem_cons_zero, List.getElem_cons_succ, List.setIfInBounds_toArray, List.set_cons_zero, List.set_cons_succ]); with_reducible rfl)) : wpAnyH P md ops Q S (fuel + 1) listed a w := by
  subst ha
  exact wpAnyH_take hi hs hf hr hQ (.inl ⟨hy1, hy2⟩) hS h
theorem be_ {P : Program} {fn : Func} {R : Ending → World → Prop} {a : Act} {w : World} (hR : R (.returned (.tuple #[])) w) (hr : fn.results = #[] := by kernel_rfl) (hd : a.defers = [] := by rfl) : bodyPost P fn R .normal a w := bodyPost_end (results_none hr _ _ _) hd hR
theorem rd_ {P : Program} {ops : Array Oper} {Q : Exit → Act → World → Prop} {md : Region.Mode} {S : World → Prop} (i : Nat) (rs : List Nat) {o : Oper} {fuel : Nat} {listed : Array Bool} {a : Act} {w : World} (ho : ops[i]? = some o)
    (h : ∀ K' : Act → World → Prop, Shut (∀ a w, S w → (S w → wpAnyH P md ops Q S fuel (listed.setIfInBounds i true) a w) → K' a w) → if Region.wanted o (yielded ops a.tmps) = true then Oper.wp P o a w K' Q else K' (a.put o.dst undef) w)
    (hs : AllReadyH P md ops Q S fuel listed a w rs) (hr : Region.ready md ops listed = i :: rs := by kernel_rfl) : wpAnyH P md ops Q S (fuel + 1) listed a w := wpAnyH_ready hr (by simp) (AllReadyH.cons ho h hs)
abbrev Fl:=ByteArray×ByteArray
abbrev Ed:=ByteArray×ByteArray×ByteArray
theorem eq_of_toList {a b:ByteArray}(h:a.toList=b.toList):a=b:=by
  rw[Lib.toList_data,Lib.toList_data] at h
  rw[<-Lib.mk_data a,<-Lib.mk_data b,h]
theorem eq_of_data {a b:ByteArray}(h:a.data.toList=b.data.toList):a=b:=eq_of_toList (by rw[Lib.toList_data,Lib.toList_data,h])
theorem beq_true_iff (a b:ByteArray):(a.toList==b.toList)=true↔a=b:=by
  rw[beq_iff_eq];exact⟨eq_of_toList,λh=>by rw[h]⟩
theorem beq_false_iff (a b:ByteArray):(a.toList==b.toList)=false↔a≠b:=by
  rw[<-Bool.not_eq_true,beq_true_iff]
theorem empty_iff (s:ByteArray):s.toList.isEmpty=true↔s=⟨#[]⟩:=by
  rw[List.isEmpty_iff]
  constructor
  · intro h;exact eq_of_toList (by rw[h,Lib.toList_data])
  · intro h;rw[h,Lib.toList_data]
def standsL:List Fl->ByteArray->ByteArray
  |[],_=>⟨#[]⟩
  |f::l,q=>if f.1.toList==q.toList then f.2 else standsL l q
theorem standsL_hit (f:Fl)(l:List Fl)(q:ByteArray)(h:(f.1.toList==q.toList)=true):standsL (f::l) q=f.2:=by simp[standsL,h]
theorem standsL_miss (f:Fl)(l:List Fl)(q:ByteArray)(h:(f.1.toList==q.toList)=false):standsL (f::l) q=standsL l q:=by simp[standsL,h]
def Apart {α:Type}(key:α->ByteArray)(l:List α):Prop:=l.Pairwise λa b=>key a≠key b
theorem standsL_none {l:List Fl}{q:ByteArray}(h:∀f∈l,f.1≠q):standsL l q=⟨#[]⟩:=by
  induction l with
  |nil=>rfl
  |cons f l ih=>
    rw[standsL_miss _ _ _ ((beq_false_iff _ _).2 (h f (by simp)))]
    exact ih λg hg=>h g (by simp[hg])
theorem standsL_mem {l:List Fl}(ha:Apart Prod.fst l){f:Fl}(hf:f∈l):standsL l f.1=f.2:=by
  induction l with
  |nil=>cases hf
  |cons g l ih=>
    have hp:=List.pairwise_cons.1 ha
    rcases List.mem_cons.1 hf with rfl|hf
    · exact standsL_hit _ _ _ ((beq_true_iff _ _).2 rfl)
    · rw[standsL_miss _ _ _ ((beq_false_iff _ _).2 (hp.1 f hf))]
      exact ih hp.2 hf
theorem standsL_found {l:List Fl}{q:ByteArray}(h:standsL l q≠⟨#[]⟩):(q,standsL l q)∈l:=by
  induction l with
  |nil=>exact absurd rfl h
  |cons f l ih=>
    by_cases e:f.1=q
    · rw[standsL_hit _ _ _ ((beq_true_iff _ _).2 e)]
      rw[<-e];simp
    · rw[standsL_miss _ _ _ ((beq_false_iff _ _).2 e)] at h ⊢
      exact List.mem_cons_of_mem _ (ih h)
theorem mem_iff_stands {l:List Fl}(ha:Apart Prod.fst l)(hn:∀f∈l,f.2≠⟨#[]⟩)(f:Fl):f∈l↔standsL l f.1=f.2/\f.2≠⟨#[]⟩:=by
  constructor
  · intro h;exact⟨standsL_mem ha h,hn f h⟩
  · rintro⟨h,hne⟩
    have:=standsL_found (l:=l) (q:=f.1) (by rw[h];exact hne)
    rw[h] at this;exact this
def Rising (l:List Fl):Prop:=l.Pairwise λa b=>a.1.data.toList<b.1.data.toList
theorem Rising.apart {l:List Fl}(h:Rising l):Apart Prod.fst l:=h.imp fun {a b} hlt e=>by rw[e] at hlt;exact List.lt_irrefl _ hlt
def Told (l:List Fl)(g:ByteArray->ByteArray):Prop:=Rising l/\(∀f∈l,f.2≠⟨#[]⟩)/\∀q,standsL l q=g q
theorem Told.mem {l:List Fl}{g:ByteArray->ByteArray}(h:Told l g)(f:Fl):f∈l↔g f.1=f.2/\f.2≠⟨#[]⟩:=by
  rw[mem_iff_stands h.1.apart h.2.1,h.2.2]
theorem Apart.nodup {l:List Fl}(h:Apart Prod.fst l):l.Nodup:=List.Pairwise.imp (λhne e=>hne (by rw[e])) h
theorem Told.unique {l l':List Fl}{g:ByteArray->ByteArray}(h:Told l g)(h':Told l' g):l=l':=by
  have hp:l.Perm l':=(List.perm_ext_iff_of_nodup h.1.apart.nodup h'.1.apart.nodup).2 λf=>by rw[h.mem,h'.mem]
  exact List.Perm.eq_of_pairwise (λa b _ _ h1 h2=>absurd (List.lt_trans h1 h2) (List.lt_irrefl _)) h.1 h'.1 hp
theorem told_of_mem {l:List Fl}{g:ByteArray->ByteArray}(hr:Rising l)(hm:∀f,f∈l↔g f.1=f.2/\f.2≠⟨#[]⟩):Told l g:=by
  refine⟨hr,λf hf=>((hm f).1 hf).2,λq=>?_⟩
  by_cases h:g q=⟨#[]⟩
  · rw[h]
    refine standsL_none λf hf e=>?_
    have:=(hm f).1 hf
    rw[e,h] at this
    exact this.2 this.1.symm
  · exact standsL_mem hr.apart ((hm (q,g q)).2 ⟨rfl,h⟩)
def upd (g:ByteArray->ByteArray)(q b:ByteArray):ByteArray->ByteArray:=λx=>if q.toList==x.toList then b else g x
theorem upd_same (g:ByteArray->ByteArray)(q b:ByteArray):upd g q b q=b:=by simp[upd]
theorem upd_other (g:ByteArray->ByteArray){q x:ByteArray}(b:ByteArray)(h:q≠x):upd g q b x=g x:=by
  unfold upd;rw[(beq_false_iff q x).2 h];rfl
def edited (g:ByteArray->ByteArray)(es:List Ed):ByteArray->ByteArray:=es.foldl (λg e=>upd g e.1 e.2.2) g
theorem edited_snoc (g:ByteArray->ByteArray)(es:List Ed)(e:Ed):edited g (es++[e])=upd (edited g es) e.1 e.2.2:=by simp[edited,List.foldl_append]
theorem edited_other {g:ByteArray->ByteArray}{es:List Ed}{q:ByteArray}(h:∀e∈es,e.1≠q):edited g es q=g q:=by
  induction es generalizing g with
  |nil=>rfl
  |cons e es ih=>
    show edited (upd g e.1 e.2.2) es q=g q
    rw[ih λx hx=>h x (by simp[hx])]
    exact upd_other _ _ (h e (by simp))
theorem edited_mem {g:ByteArray->ByteArray}{es:List Ed}(ha:Apart Prod.fst es){e:Ed}(he:e∈es):edited g es e.1=e.2.2:=by
  induction es generalizing g with
  |nil=>cases he
  |cons x es ih=>
    have hp:=List.pairwise_cons.1 ha
    show edited (upd g x.1 x.2.2) es e.1=e.2.2
    rcases List.mem_cons.1 he with rfl|he
    · rw[edited_other λy hy=>(hp.1 y hy).symm];exact upd_same _ _ _
    · exact ih hp.2 he
def Good {α:Type}(ok:α->Bool)(key:α->ByteArray)(l:List α):Prop:=(∀x∈l,ok x=true)/\Apart key l
theorem Good.nil {α:Type}(ok:α->Bool)(key:α->ByteArray):Good ok key []:=⟨by simp,List.Pairwise.nil⟩
theorem good_succ {α:Type}{ok:α->Bool}{key:α->ByteArray}{l:List α}{k:Nat}(hk:k<l.length):
    Good ok key (l.take (k+1))↔Good ok key (l.take k)/\ok l[k]=true/\∀j (h:j<k),key (l[j]'(by omega))≠key l[k]:=by
  rw[List.take_succ_eq_append_getElem hk]
  unfold Good Apart
  rw[List.pairwise_append]
  constructor
  · rintro⟨h1,h2,_,h3⟩
    refine⟨⟨λx hx=>h1 x (List.mem_append_left _ hx),h2⟩,h1 _ (List.mem_append_right _ (List.mem_singleton.2 rfl)),λj hj=>h3 _ ?_ _ (by simp)⟩
    rw[List.mem_iff_getElem]
    exact⟨j,by rw[List.length_take];omega,by rw[List.getElem_take]⟩
  · rintro⟨⟨h1,h2⟩,h3,h4⟩
    refine⟨λx hx=>?_,h2,by simp,λa ha b hb=>?_⟩
    · rcases List.mem_append.1 hx with h|h
      · exact h1 x h
      · rw[List.mem_singleton.1 h];exact h3
    · rw[List.mem_singleton.1 hb]
      obtain⟨j,hj,rfl⟩:=List.mem_iff_getElem.1 ha
      rw[List.length_take] at hj
      rw[List.getElem_take]
      exact h4 j (by omega)
def okText (s:ByteArray):Bool:=decide (s.size<=8)
def okFill (s:ByteArray):Bool:= !s.toList.isEmpty&&okText s
def okFl (f:Fl):Bool:=okFill f.1&&okFill f.2
def okEdit (p o n:ByteArray):Bool:=okFill p&&okText o&&okText n&& !(o.toList==n.toList)
def okEd (e:Ed):Bool:=okEdit e.1 e.2.1 e.2.2
theorem okText_iff (s:ByteArray):okText s=true↔s.size<=8:=by simp[okText]
theorem okFill_iff (s:ByteArray):okFill s=true↔1<=s.size/\s.size<=8:=by
  unfold okFill
  rw[Bool.and_eq_true,okText_iff,Bool.not_eq_true',<-Bool.not_eq_true,List.isEmpty_iff,Lib.toList_data,Lib.size_eq]
  have:¬s.data.toList=[]↔1<=s.data.toList.length:=by
    rw[<-ne_eq,<-List.length_pos_iff];exact Iff.rfl
  rw[this]
theorem okFl_iff (f:Fl):okFl f=true↔(1<=f.1.size/\f.1.size<=8)/\1<=f.2.size/\f.2.size<=8:=by
  unfold okFl;rw[Bool.and_eq_true,okFill_iff,okFill_iff]
theorem okEd_iff (e:Ed):okEd e=true↔(1<=e.1.size/\e.1.size<=8)/\e.2.1.size<=8/\e.2.2.size<=8/\e.2.1≠e.2.2:=by
  unfold okEd okEdit;rw[Bool.and_eq_true,Bool.and_eq_true,Bool.and_eq_true,okFill_iff,okText_iff,okText_iff,Bool.not_eq_true',beq_false_iff,and_assoc,and_assoc]
def RetIff (e:Ending)(p:Prop):Prop:=∃r:Bool,e=.returned (.bool r)/\(r=true↔p)
theorem RetIff.yes {p:Prop}(h:p):RetIff (.returned (.bool true)) p:=⟨true,rfl,⟨λ_=>h,λ_=>rfl⟩⟩
theorem RetIff.no {p:Prop}(h:¬p):RetIff (.returned (.bool false)) p:=⟨false,rfl,⟨λx=>Bool.noConfusion x,λx=>absurd x h⟩⟩
def Drew (w w':World):Prop:=∃n,w'=w.drewN n
theorem Drew.refl (w:World):Drew w w:=⟨0,rfl⟩
theorem Drew.one (w:World)(n:Nat):Drew w (w.drewN n):=⟨n,rfl⟩
theorem Drew.two (w:World)(n m:Nat):Drew w ((w.drewN n).drewN m):=⟨n+m,by simp⟩
theorem Drew.below {w w':World}(h:Drew w w'):Below w.heap.size w w':=by
  obtain⟨n,rfl⟩:=h
  exact⟨rfl,rfl,rfl,Nat.le_refl _,λ_ _=>rfl⟩
def cF (f:Fl):List Value:=[.string f.1,.string f.2]
def cE (e:Ed):List Value:=[.string e.1,.string e.2.1,.string e.2.2]
def FilesAt (w:World)(v:Value)(l:List Fl):Prop:=
  (l=[]/\∃a cap,v=.slice a 0 cap)\/
  ∃b off cap,v=.slice (some ⟨b,off,none⟩) l.length cap/\b<w.heap.size/\
    (∀i (h:i<l.length),w.cell? ⟨b,off+i*2,none⟩=some (.string l[i].1))/\
    (∀i (h:i<l.length),w.cell? ⟨b,off+i*2+1,none⟩=some (.string l[i].2))
def EditsAt (w:World)(v:Value)(l:List Ed):Prop:=
  (l=[]/\∃a cap,v=.slice a 0 cap)\/
  ∃b off cap,v=.slice (some ⟨b,off,none⟩) l.length cap/\b<w.heap.size/\
    (∀i (h:i<l.length),w.cell? ⟨b,off+i*3,none⟩=some (.string l[i].1))/\
    (∀i (h:i<l.length),w.cell? ⟨b,off+i*3+1,none⟩=some (.string l[i].2.1))/\
    (∀i (h:i<l.length),w.cell? ⟨b,off+i*3+2,none⟩=some (.string l[i].2.2))
theorem FilesAt.kept {w w':World}{v:Value}{l:List Fl}(h:FilesAt w v l)(hs:w.heap.size<=w'.heap.size)(hb:∀k,v.ownBlock=some k->k<w.heap.size->w'.heap[k]? =w.heap[k]?):FilesAt w' v l:=by
  rcases h with h|⟨b,off,cap,rfl,hlt,h0,h1⟩
  · exact .inl h
  · have e:=hb b rfl hlt
    exact .inr ⟨b,off,cap,rfl,Nat.lt_of_lt_of_le hlt hs,λi h=>(World.cell?_of_block (w:=w) e).trans (h0 i h),λi h=>(World.cell?_of_block (w:=w) e).trans (h1 i h)⟩
theorem EditsAt.kept {w w':World}{v:Value}{l:List Ed}(h:EditsAt w v l)(hs:w.heap.size<=w'.heap.size)(hb:∀k,v.ownBlock=some k->k<w.heap.size->w'.heap[k]? =w.heap[k]?):EditsAt w' v l:=by
  rcases h with h|⟨b,off,cap,rfl,hlt,h0,h1,h2⟩
  · exact .inl h
  · have e:=hb b rfl hlt
    exact .inr ⟨b,off,cap,rfl,Nat.lt_of_lt_of_le hlt hs,λi h=>(World.cell?_of_block (w:=w) e).trans (h0 i h),λi h=>(World.cell?_of_block (w:=w) e).trans (h1 i h),λi h=>(World.cell?_of_block (w:=w) e).trans (h2 i h)⟩
theorem FilesAt.later {w w':World}{v:Value}{l:List Fl}(h:FilesAt w v l)(hb:Below w.heap.size w w'):FilesAt w' v l:=h.kept hb.size λk _ hk=>hb.block k hk
theorem EditsAt.later {w w':World}{v:Value}{l:List Ed}(h:EditsAt w v l)(hb:Below w.heap.size w w'):EditsAt w' v l:=h.kept hb.size λk _ hk=>hb.block k hk
theorem FilesAt.grown {w w':World}{v:Value}{l:List Fl}{row:Option Nat}(h:FilesAt w v l)(hg:w.grownBy w' row)(hne:v.ownBlock=none\/v.ownBlock≠row):FilesAt w' v l:=
  h.kept hg.size λk hk hlt=>hg.block k hlt (by rcases hne with h|h<;>simp_all)
theorem EditsAt.grown {w w':World}{v:Value}{l:List Ed}{row:Option Nat}(h:EditsAt w v l)(hg:w.grownBy w' row)(hne:v.ownBlock=none\/v.ownBlock≠row):EditsAt w' v l:=
  h.kept hg.size λk hk hlt=>hg.block k hlt (by rcases hne with h|h<;>simp_all)
theorem flat_get {α:Type}(enc:α->List Value)(k:Nat)(hk:∀x,(enc x).length=k):∀(l:List α) (i j:Nat) (h:i<l.length),j<k->(l.flatMap enc)[i*k+j]? =(enc l[i])[j]?
  |[],_,_,h,_=>by simp at h
  |x::l,0,j,_,hj=>by simp[List.getElem?_append_left (show j<(enc x).length by rw[hk];exact hj)]
  |x::l,i+1,j,h,hj=>by
    have e:(i+1)*k+j=(enc x).length+(i*k+j):=by rw[hk];rw[Nat.add_mul];omega
    rw[List.flatMap_cons,e,List.getElem?_append_right (by omega),Nat.add_sub_cancel_left]
    exact flat_get enc k hk l i j (by simpa using h) hj
theorem flat_len {α:Type}(enc:α->List Value)(k:Nat)(hk:∀x,(enc x).length=k):∀l:List α,(l.flatMap enc).length=l.length*k
  |[]=>by simp
  |x::l=>by rw[List.flatMap_cons,List.length_append,hk,flat_len enc k hk l,List.length_cons,Nat.add_mul];omega
theorem addr_add (g n:Nat):(⟨g,0,none⟩:Addr).add n=⟨g,0+n,none⟩:=by
  unfold Addr.add
  by_cases h:n=0
  · subst h;simp
  · simp[h]
theorem FilesAt.of_row {w:World}{base:Nat}{e:TypeId}{v:Value}{l:List Fl}(h:w.ownsRow base e 2 v l.length (l.flatMap cF)):FilesAt w v l:=by
  rcases h.2 with ⟨rfl,h0⟩|⟨g,cap,cur,rfl,hb,hg,_⟩
  · exact .inl ⟨List.length_eq_zero_iff.1 h0,_,_,rfl⟩
  · have hc:=h.cells (g:=g) rfl
    refine .inr ⟨g,0,cap,rfl,(Array.getElem?_eq_some_iff.1 hg).1,λi hi=>?_,λi hi=>?_⟩
    · have:=hc (i*2+0) (.string l[i].1) (by rw[flat_get cF 2 (λ_=>rfl) l i 0 hi (by omega)];rfl)
      simpa[addr_add] using this
    · have:=hc (i*2+1) (.string l[i].2) (by rw[flat_get cF 2 (λ_=>rfl) l i 1 hi (by omega)];rfl)
      simpa[addr_add] using this
theorem EditsAt.of_row {w:World}{base:Nat}{e:TypeId}{v:Value}{l:List Ed}(h:w.ownsRow base e 3 v l.length (l.flatMap cE)):EditsAt w v l:=by
  rcases h.2 with ⟨rfl,h0⟩|⟨g,cap,cur,rfl,hb,hg,_⟩
  · exact .inl ⟨List.length_eq_zero_iff.1 h0,_,_,rfl⟩
  · have hc:=h.cells (g:=g) rfl
    refine .inr ⟨g,0,cap,rfl,(Array.getElem?_eq_some_iff.1 hg).1,λi hi=>?_,λi hi=>?_,λi hi=>?_⟩
    · have:=hc (i*3+0) (.string l[i].1) (by rw[flat_get cE 3 (λ_=>rfl) l i 0 hi (by omega)];rfl)
      simpa[addr_add] using this
    · have:=hc (i*3+1) (.string l[i].2.1) (by rw[flat_get cE 3 (λ_=>rfl) l i 1 hi (by omega)];rfl)
      simpa[addr_add] using this
    · have:=hc (i*3+2) (.string l[i].2.2) (by rw[flat_get cE 3 (λ_=>rfl) l i 2 hi (by omega)];rfl)
      simpa[addr_add] using this
def be:Nat->Nat->List UInt8
  |0,_=>[]
  |k+1,n=>be k (n/256)++[UInt8.ofNat (n%256)]
theorem be_len:∀k n,(be k n).length=k
  |0,_=>rfl
  |k+1,n=>by rw[be,List.length_append,be_len k];rfl
theorem be_succ (k n:Nat):be (k+1) n=be k (n/256)++[UInt8.ofNat (n%256)]:=rfl
theorem be_head:∀k n,be (k+1) n=UInt8.ofNat (n/256^k%256)::be k n
  |0,n=>by simp[be]
  |k+1,n=>by
    rw[be_succ,be_head k (n/256),be_succ k n,Nat.div_div_eq_div_mul,List.cons_append,Nat.pow_succ,Nat.mul_comm (256^k) 256]
def bs (l:List UInt8):ByteArray:=⟨l.toArray⟩
theorem bs_size (l:List UInt8):(bs l).size=l.length:=rfl
theorem bs_data (s:ByteArray):bs s.data.toList=s:=rfl
def txt (s:ByteArray):List UInt8:=be 1 s.size++s.data.toList
def edB (e:Ed):List UInt8:=txt e.1++txt e.2.1++txt e.2.2
def adl (ab:Nat×Nat)(x:UInt8):Nat×Nat:=((ab.1+x.toNat)%65521,(ab.2+(ab.1+x.toNat)%65521)%65521)
def adlS (l:List UInt8):Nat×Nat:=l.foldl adl (1,0)
def adler (l:List UInt8):Nat:=(adlS l).2*65536+(adlS l).1
theorem adlS_snoc (l:List UInt8)(x:UInt8):adlS (l++[x])=adl (adlS l) x:=by simp[adlS]
theorem adl_lt {ab:Nat×Nat}(x:UInt8):(adl ab x).1<65521/\(adl ab x).2<65521:=⟨Nat.mod_lt _ (by decide),Nat.mod_lt _ (by decide)⟩
theorem adlS_lt (l:List UInt8):(adlS l).1<65521/\(adlS l).2<65521:=by
  rcases List.eq_nil_or_concat l with rfl|⟨m,x,rfl⟩
  · exact⟨by decide,by decide⟩
  · rw[List.concat_eq_append,adlS_snoc];exact adl_lt x
theorem adler_lt (l:List UInt8):adler l<2^32:=by
  have:=adlS_lt l
  unfold adler;omega
structure Rc where
  kind:Nat
  lane:Nat
  num:Nat
  pass:Bool
  edits:List Ed
def Rc.body (r:Rc):List UInt8:=
  (if r.kind=1 then be 1 r.lane++be 1 r.edits.length++r.edits.flatMap edB else [])++
  (if r.kind=4 then be 1 (if r.pass then 1 else 0) else [])++
  (if r.kind≠3/\r.kind≠7 then be 8 r.num else [])
def Rc.head (r:Rc):List UInt8:=be 1 r.kind++be 4 r.body.length++r.body
def Rc.bytes (r:Rc):List UInt8:=r.head++be 4 (adler r.head)
theorem jcell_lt {w:World}{b o:Nat}{v:Value}(h:w.cell? ⟨b,o,none⟩=some v):b<w.heap.size:=by
  by_cases hb:b<w.heap.size
  · exact hb
  · have:w.heap[b]? =none:=Array.getElem?_eq_none (by omega)
    simp[World.cell?,this] at h
theorem jcell_after {w w':World}{b o:Nat}{v:Value}(hb:Below w.heap.size w w')(h:w.cell? ⟨b,o,none⟩=some v):w'.cell? ⟨b,o,none⟩=some v:=
  (World.cell?_of_block (w:=w) (hb.block b (jcell_lt h))).trans h
theorem below_mk {w w1:World}{o:Obj}(hb:Below (w.alloc o).heap.size (w.alloc o) w1):Below w.heap.size w w1:=((Below.refl _ _).alloc (Nat.le_refl _) o).trans (hb.mono (by simp))
theorem wrap_i64 {n:Int}(h:-9223372036854775808<=n)(h':n<9223372036854775808):IntKind.i64.wrap n=n:=by
  simp[IntKind.wrap,IntKind.bits,IntKind.signed];omega
theorem wrap_u64 {n:Int}(h:0<=n)(h':n<18446744073709551616):IntKind.u64.wrap n=n:=by
  simp[IntKind.wrap,IntKind.bits,IntKind.signed];omega
theorem byte_nat {n:Nat}(h:n<256):((UInt8.ofNat n).toNat:Int)=n:=by
  rw[UInt8.toNat_ofNat'];omega
def up (f:Int->Int):Nat->Int
  |0=>1
  |k+1=>f (up f k)
def f8 (x:Int):Int:=x*2%256
def f32 (x:Int):Int:=x*2%4294967296
def f64 (x:Int):Int:=wrap64 (x*2)
theorem up8:∀k,k<8->(up f8 k !=0)=true:=by decide
theorem up32:∀k,k<32->(up f32 k !=0)=true:=by decide
theorem up64:∀k,k<64->(up f64 k !=0)=true:=by decide+kernel
theorem bits8 (w:World):Calls prog 200 #[] w λe w'=>e=.returned (.int .i64 8)/\w=w':=by
  go_enter func200,ntmps200
  go_wp2
  go_loop [1,2] (λb o=>∃k:Nat,k<=8/\b=.int .i64 k/\o=.int .u8 (up f8 k)) (λb _=>8-(intOf b).toNat)
  case atStart=>exact⟨0,by omega,rfl,rfl⟩
  case round=>
    obtain⟨k,hk,rfl,rfl⟩:=hrel
    by_cases hlk:k<8
    · have h0:=up8 k hlk
      have h1:Hid (up f8 (k+1)=f8 (up f8 k)):=rfl
      generalize up f8 k=x at h0 h1
      go_wp2
      refine⟨⟨k+1,hlk,by go_num,?_⟩,by simp[intOf];omega⟩
      rw[h1.out];rfl
    · obtain rfl:k=8:=by omega
      rw[show up f8 8=0 by decide+kernel]
      go_wp2
      go_ret
      exact⟨rfl,rfl⟩
theorem bits32 (w:World):Calls prog 201 #[] w λe w'=>e=.returned (.int .i64 32)/\w=w':=by
  go_enter func201,ntmps201
  go_wp2
  go_loop [1,2] (λb o=>∃k:Nat,k<=32/\b=.int .i64 k/\o=.int .u32 (up f32 k)) (λb _=>32-(intOf b).toNat)
  case atStart=>exact⟨0,by omega,rfl,rfl⟩
  case round=>
    obtain⟨k,hk,rfl,rfl⟩:=hrel
    by_cases hlk:k<32
    · have h0:=up32 k hlk
      have h1:Hid (up f32 (k+1)=f32 (up f32 k)):=rfl
      generalize up f32 k=x at h0 h1
      go_wp2
      refine⟨⟨k+1,hlk,by go_num,?_⟩,by simp[intOf];omega⟩
      rw[h1.out];rfl
    · obtain rfl:k=32:=by omega
      rw[show up f32 32=0 by decide+kernel]
      go_wp2
      go_ret
      exact⟨rfl,rfl⟩
theorem bits64 (w:World):Calls prog 238 #[] w λe w'=>e=.returned (.int .i64 64)/\w=w':=by
  go_enter func238,ntmps238
  go_wp2
  go_loop [1,2] (λb o=>∃k:Nat,k<=64/\b=.int .i64 k/\o=.int .i64 (up f64 k)) (λb _=>64-(intOf b).toNat)
  case atStart=>exact⟨0,by omega,rfl,rfl⟩
  case round=>
    obtain⟨k,hk,rfl,rfl⟩:=hrel
    by_cases hlk:k<64
    · have h0:=up64 k hlk
      have h1:Hid (up f64 (k+1)=f64 (up f64 k)):=rfl
      generalize up f64 k=x at h0 h1
      go_wp2
      refine⟨⟨k+1,hlk,by go_num,?_⟩,by simp[intOf];omega⟩
      rw[h1.out];rfl
    · obtain rfl:k=64:=by omega
      rw[show up f64 64=0 by decide+kernel]
      go_wp2
      go_ret
      exact⟨rfl,rfl⟩
def bc (l:List UInt8):List Value:=l.map λb=>.int .u8 b.toNat
theorem bc_append (l m:List UInt8):bc (l++m)=bc l++bc m:=by simp[bc]
theorem bc_one (l:List UInt8):∀v∈bc l,v.oneCell'=true:=by
  intro v hv
  obtain⟨b,_,rfl⟩:=List.mem_map.1 hv
  rfl
theorem info_u8:(prog.info? 5).map (λi=>(i.zero,i.size,i.bytes))=some (some (.int .u8 0),1,1):=by kernel_rfl
theorem be_take:∀(K n j:Nat),j<K->(be K n).take (j+1)=(be K n).take j++[UInt8.ofNat (n/256^(K-1-j)%256)]
  |0,_,_,h=>by omega
  |K+1,n,0,_=>by rw[be_head];simp
  |K+1,n,j+1,h=>by
    rw[be_head,List.take_succ_cons,List.take_succ_cons,be_take K n j (by omega),List.cons_append]
    congr 4
    rw[show K+1-1-(j+1)=K-1-j by omega]
theorem cell_one_at (w:World)(v:Value)(t:TypeId):∀j u,[v][j]? =some u->(w.alloc (.cells #[v] t)).cell? ((⟨w.heap.size,0,none⟩:Addr).add j)=some u:=by
  intro j u h
  have hj:j=0:=by
    by_cases hj:j=0
    · exact hj
    · rw[List.getElem?_eq_none (by simp;omega)] at h;cases h
  subst hj
  obtain rfl:v=u:=by simpa using h
  rw[addr_add]
  simp
structure Apped (base:Nat)(w w':World)(v v':Value)(n:Nat)(xs:List Value):Prop where
  row:w'.ownsRow base 5 1 v' n xs
  grown:w.grownBy w' v.ownBlock
  block:v'.ownBlock=v.ownBlock\/∃g,v'.ownBlock=some g/\w.heap.size<=g
theorem Apped.refl {base:Nat}{w:World}{v:Value}{n:Nat}{xs:List Value}(h:w.ownsRow base 5 1 v n xs):Apped base w w v v n xs:=⟨h,World.grownBy.refl _ _,.inl rfl⟩
theorem Apped.step {base:Nat}{w wr w':World}{v u v':Value}{n m:Nat}{xs ys:List Value}{o:Obj}(h:Apped base w wr v u n xs)(hg:(wr.alloc o).grownBy w' u.ownBlock)(hr:w'.ownsRow base 5 1 v' m ys)(hb:v'.ownBlock=u.ownBlock\/v'.ownBlock=some (wr.alloc o).heap.size):Apped base w w' v v' m ys:=by
  have hs:=h.grown.size
  have ha:=World.grownBy_alloc wr o none
  refine⟨hr,⟨hg.os.trans h.grown.os,hg.tape.trans h.grown.tape,hg.output.trans h.grown.output,Nat.le_trans (Nat.le_trans hs ha.size) hg.size,λk hk hne=>?_⟩,?_⟩
  · rw[hg.block k (Nat.lt_of_lt_of_le hk (Nat.le_trans hs ha.size)) (λe=>?_),ha.block k (Nat.lt_of_lt_of_le hk hs) (by simp),h.grown.block k hk hne]
    rcases h.block with h1|⟨g,h1,h2⟩
    · exact hne (by rw[e,h1])
    · rw[h1] at e;cases e;omega
  · rcases hb with hb|hb
    · rw[hb];exact h.block
    · exact .inr ⟨_,hb,Nat.le_trans hs ha.size⟩
theorem app8 (n:Nat)(hn:n<256)(v:Value)(l:List UInt8)(base:Nat)(w:World)(hrow:w.ownsRow base 5 1 v l.length (bc l))(hbase:base<=w.heap.size)(hlen:l.length<1099511627776):
    Calls prog 160 #[v,.int .u8 n] w λe w'=>∃v',e=.returned v'/\Apped base w w' v v' (l.length+1) (bc (l++be 1 n)):=by
  obtain⟨i0,hi,hz0,hz1,hz2⟩:=info_parts info_u8
  have hbe:be 1 n=[UInt8.ofNat n]:=by simp[be,Nat.mod_eq_of_lt hn]
  have hx:((UInt8.ofNat n).toNat:Int)=n:=byte_nat hn
  go_enter func160,ntmps160
  go_wp2_with (go_at_call 200;go_fit (bits8 _);rintro e w' ⟨rfl,rfl⟩)
  go_loopw [0,5] (λbv lv wr=>(lv=.int .i64 0/\bv=v/\wr=w)\/(lv=.int .i64 (-8)/\Apped base w wr v bv (l.length+1) (bc (l++be 1 n)))) (λ_ lv _=>(intOf lv+8).toNat)
  case atStart=>exact .inl ⟨rfl,rfl,rfl⟩
  case round=>
    rcases hrel with ⟨rfl,rfl,rfl⟩|⟨rfl,hA⟩
    · have q1:Hid (l.length+1<=maxLen):=by show _<=_;unfold maxLen;omega
      have q2:Hid ((l.length+1)*1<=140737488355328):=by show _<=_;omega
      have q3:Hid (∀o,base<=(wr.alloc o).heap.size):=λo=>by
        show base<=_
        simp;omega
      have hr:Hid _:=hrow
      clear hlen hn hrow
      generalize UInt8.ofNat n=x at hx hbe
      go_wp2_with (at_builtin;refine wpList_append_own_at _ rfl (.tmp 12) (.tmp 16) _ rfl base _ i0 _ 1 1 underlying114 hi hz0 hz1 hz2 rfl (by decide) u0 _ _ rfl (World.ownsRow.alloc hr.out _) ⟨wr.heap.size,0,none⟩ 1 1 [.int .u8 n] rfl rfl (cell_one_at wr _ _) (by simp[Value.oneCell']) q1.out q2.out (q3.out _) ?_;intro v1 w1 hown1 hg1 hnil1 hloc1)
      refine⟨.inr ⟨by go_num,Apped.step (Apped.refl hr.out) hg1 (by rw[hbe,bc_append];simp only[bc,List.map_cons,List.map_nil,hx];exact hown1) hloc1⟩,by simp[intOf]⟩
    · have HA:Hid _:=hA
      clear hA
      go_wp2
      go_ret
      exact⟨u0,rfl,HA.out⟩
theorem shr32 {n j:Nat}(hj:j<4):(n:Int)/2^(24-8*j)%256=((UInt8.ofNat (n/256^(4-1-j)%256)).toNat:Int):=by
  have e:(2:Nat)^(24-8*j)=256^(4-1-j):=by
    rw[show (256:Nat)=2^8 from rfl,<-Nat.pow_mul];congr 1;omega
  rw[byte_nat (Nat.mod_lt _ (by decide)),<-e,Int.natCast_emod,Int.natCast_ediv,Int.natCast_pow]
  rfl
theorem app32 (n:Nat)(v:Value)(l:List UInt8)(base:Nat)(w:World)(hrow:w.ownsRow base 5 1 v l.length (bc l))(hbase:base<=w.heap.size)(hlen:l.length<1099511627776):
    Calls prog 161 #[v,.int .u32 n] w λe w'=>∃v',e=.returned v'/\Apped base w w' v v' (l.length+4) (bc (l++be 4 n)):=by
  obtain⟨i0,hi,hz0,hz1,hz2⟩:=info_parts info_u8
  go_enter func161,ntmps161
  go_wp2_with (go_at_call 201;go_fit (bits32 _);rintro e w' ⟨rfl,rfl⟩)
  go_loopw [0,5] (λbv lv wr=>∃j:Nat,j<=4/\lv=.int .i64 (24-8*j)/\Apped base w wr v bv (l.length+j) (bc (l++(be 4 n).take j))) (λ_ lv _=>(intOf lv+8).toNat)
  case atStart=>exact⟨0,by omega,rfl,Apped.refl (by simpa using hrow)⟩
  case round=>
    obtain⟨j,hj,rfl,hA⟩:=hrel
    have HA:Hid (Apped base w wr v u0 (l.length+j) (bc (l++(be 4 n).take j))):=hA
    by_cases hj4:j<4
    · have hsz:24-8*(j:Int)≥0:=by omega
      have Hs:=shr32 (n:=n) hj4
      have Hb:=be_take 4 n j hj4
      generalize UInt8.ofNat (n/256^(4-1-j)%256)=x at Hs Hb
      have HB:Hid _:=Hb
      have q1:Hid (l.length+j+1<=maxLen):=by show _<=_;unfold maxLen;omega
      have q2:Hid ((l.length+j+1)*1<=140737488355328):=by show _<=_;omega
      have q3:Hid (∀o,base<=(wr.alloc o).heap.size):=λo=>by
        show base<=_
        have:=hA.grown.size
        simp;omega
      have hr:Hid (wr.ownsRow base 5 1 u0 (l.length+j) (bc (l++(be 4 n).take j))):=hA.row
      clear hA hrow Hb hlen
      go_wp2_with (at_builtin;refine wpList_append_own_at _ rfl (.tmp 12) (.tmp 17) _ rfl base _ i0 _ 1 1 underlying114 hi hz0 hz1 hz2 rfl (by decide) u0 _ _ rfl (World.ownsRow.alloc hr.out _) ⟨wr.heap.size,0,none⟩ 1 1 [.int .u8 x.toNat] rfl rfl (cell_one_at wr _ _) (by simp[Value.oneCell']) q1.out q2.out (q3.out _) ?_;intro v1 w1 hown1 hg1 hnil1 hloc1)
      refine⟨⟨j+1,by omega,by go_num,HA.out.step hg1 (by rw[HB.out,<-List.append_assoc,bc_append];exact hown1) hloc1⟩,by simp[intOf];omega⟩
    · obtain rfl:j=4:=by omega
      have e:(be 4 n).take 4=be 4 n:=List.take_of_length_le (by rw[be_len];exact Nat.le_refl _)
      rw[e] at HA
      clear hA
      go_wp2
      go_ret
      exact⟨u0,rfl,HA.out⟩
theorem shr64 {n j:Nat}(hj:j<8):(n:Int)/2^(56-8*j)%256=((UInt8.ofNat (n/256^(8-1-j)%256)).toNat:Int):=by
  have e:(2:Nat)^(56-8*j)=256^(8-1-j):=by
    rw[show (256:Nat)=2^8 from rfl,<-Nat.pow_mul];congr 1;omega
  rw[byte_nat (Nat.mod_lt _ (by decide)),<-e,Int.natCast_emod,Int.natCast_ediv,Int.natCast_pow]
  rfl
theorem app64 (n:Nat)(v:Value)(l:List UInt8)(base:Nat)(w:World)(hrow:w.ownsRow base 5 1 v l.length (bc l))(hbase:base<=w.heap.size)(hlen:l.length<1099511627776):
    Calls prog 198 #[v,.int .i64 n] w λe w'=>∃v',e=.returned v'/\Apped base w w' v v' (l.length+8) (bc (l++be 8 n)):=by
  obtain⟨i0,hi,hz0,hz1,hz2⟩:=info_parts info_u8
  go_enter func198,ntmps198
  go_wp2_with (go_at_call 238;go_fit (bits64 _);rintro e w' ⟨rfl,rfl⟩)
  go_loopw [0,5] (λbv lv wr=>∃j:Nat,j<=8/\lv=.int .i64 (56-8*j)/\Apped base w wr v bv (l.length+j) (bc (l++(be 8 n).take j))) (λ_ lv _=>(intOf lv+8).toNat)
  case atStart=>exact⟨0,by omega,rfl,Apped.refl (by simpa using hrow)⟩
  case round=>
    obtain⟨j,hj,rfl,hA⟩:=hrel
    have HA:Hid (Apped base w wr v u0 (l.length+j) (bc (l++(be 8 n).take j))):=hA
    by_cases hj4:j<8
    · have hsz:56-8*(j:Int)≥0:=by omega
      have Hs:=shr64 (n:=n) hj4
      have Hb:=be_take 8 n j hj4
      generalize UInt8.ofNat (n/256^(8-1-j)%256)=x at Hs Hb
      have HB:Hid _:=Hb
      have q1:Hid (l.length+j+1<=maxLen):=by show _<=_;unfold maxLen;omega
      have q2:Hid ((l.length+j+1)*1<=140737488355328):=by show _<=_;omega
      have q3:Hid (∀o,base<=(wr.alloc o).heap.size):=λo=>by
        show base<=_
        have:=hA.grown.size
        simp;omega
      have hr:Hid (wr.ownsRow base 5 1 u0 (l.length+j) (bc (l++(be 8 n).take j))):=hA.row
      clear hA hrow Hb hlen
      go_wp2_with (at_builtin;refine wpList_append_own_at _ rfl (.tmp 12) (.tmp 17) _ rfl base _ i0 _ 1 1 underlying114 hi hz0 hz1 hz2 rfl (by decide) u0 _ _ rfl (World.ownsRow.alloc hr.out _) ⟨wr.heap.size,0,none⟩ 1 1 [.int .u8 x.toNat] rfl rfl (cell_one_at wr _ _) (by simp[Value.oneCell']) q1.out q2.out (q3.out _) ?_;intro v1 w1 hown1 hg1 hnil1 hloc1)
      refine⟨⟨j+1,by omega,by go_num,HA.out.step hg1 (by rw[HB.out,<-List.append_assoc,bc_append];exact hown1) hloc1⟩,by simp[intOf];omega⟩
    · obtain rfl:j=8:=by omega
      have e:(be 8 n).take 8=be 8 n:=List.take_of_length_le (by rw[be_len];exact Nat.le_refl _)
      rw[e] at HA
      clear hA
      go_wp2
      go_ret
      exact⟨u0,rfl,HA.out⟩
def BytesAt (w:World)(v:Value)(l:List UInt8):Prop:=
  (l=[]/\∃a cap,v=.slice a 0 cap)\/
  ∃g off cap,v=.slice (some ⟨g,off,none⟩) l.length cap/\g<w.heap.size/\∀i (h:i<l.length),w.cell? ⟨g,off+i,none⟩=some (.int .u8 l[i].toNat)
theorem BytesAt.of_row {w:World}{base:Nat}{v:Value}{l:List UInt8}(h:w.ownsRow base 5 1 v l.length (bc l)):BytesAt w v l:=by
  rcases h.2 with ⟨rfl,h0⟩|⟨g,cap,cur,rfl,hb,hg,_⟩
  · exact .inl ⟨List.length_eq_zero_iff.1 h0,_,_,rfl⟩
  · have hc:=h.cells (g:=g) rfl
    refine .inr ⟨g,0,cap,rfl,(Array.getElem?_eq_some_iff.1 hg).1,λi hi=>?_⟩
    have:=hc i (.int .u8 l[i].toNat) (by simp[bc,hi])
    rwa [addr_add] at this
theorem adl_list {l:List UInt8}{i:Nat}(h:i<l.length):adlS (l.take (i+1))=adl (adlS (l.take i)) l[i]:=by
  rw[List.take_succ_eq_append_getElem h,adlS_snoc]
theorem csum_row (l:List UInt8)(g off cap:Nat)(w:World)(hc:∀i (h:i<l.length),w.cell? ⟨g,off+i,none⟩=some (.int .u8 l[i].toNat))(hl:l.length<1099511627776):
    Calls prog 162 #[.slice (some ⟨g,off,none⟩) l.length cap] w λe w'=>e=.returned (.int .u32 (adler l))/\w=w':=by
  go_enter func162,ntmps162
  go_wp2
  go_loop [3,4,6,9] (λa b _ i=>∃k:Nat,k<=l.length/\i=.int .i64 k/\a=.int .u32 (adlS (l.take k)).1/\b=.int .u32 (adlS (l.take k)).2) (λ_ _ _ i=>l.length-(intOf i).toNat)
  case atStart=>exact⟨0,Nat.zero_le _,rfl,rfl,rfl⟩
  case round=>
    obtain⟨k,hk,rfl,rfl,rfl⟩:=hrel
    have hlt2:=adlS_lt (l.take k)
    by_cases hlk:k<l.length
    · have he:=adl_list hlk
      have hck:=hc k hlk
      have hx:=l[k].toNat_lt
      generalize l[k]=x at he hck hx
      generalize adlS (l.take k)=ab at he hlt2
      have HE:Hid _:=he
      clear he hc
      go_wp2
      refine⟨⟨k+1,hlk,by go_num,?_,?_⟩,by simp[intOf];omega⟩
      · rw[HE.out];simp[adl]
      · rw[HE.out];simp[adl]
    · obtain rfl:k=l.length:=by omega
      rw[List.take_of_length_le (Nat.le_refl _)] at hlt2 ⊢
      have HA:Hid (adler l=(adlS l).2*65536+(adlS l).1):=rfl
      generalize adlS l=ab at hlt2 HA
      have hj:bits .or .u32 ((ab.2:Int)*65536) (ab.1:Int)=(ab.2:Int)*65536+(ab.1:Int):=bits_join .u32 32 (by decide) wraps_u32 16 _ _ (by omega) (by omega) (by omega) (by omega) (by omega) (by omega)
      go_wp2
      go_ret
      exact⟨by rw[HA.out,Int.natCast_add,Int.natCast_mul];rfl,rfl⟩
theorem csum_none (a:Option Addr)(cap:Nat)(w:World):
    Calls prog 162 #[.slice a 0 cap] w λe w'=>e=.returned (.int .u32 (adler []))/\w=w':=by
  go_enter func162,ntmps162
  go_wp2
  go_loop [3,4,6,9] (λa b _ i=>i=.int .i64 0/\a=.int .u32 1/\b=.int .u32 0) (λ_ _ _ _=>0)
  case atStart=>exact⟨rfl,rfl,rfl⟩
  case round=>
    obtain⟨rfl,rfl,rfl⟩:=hrel
    go_wp2
    go_ret
    exact⟨by rfl,rfl⟩
theorem csum_any (l:List UInt8)(v:Value)(w:World)(h:BytesAt w v l)(hl:l.length<1099511627776):
    Calls prog 162 #[v] w λe w'=>e=.returned (.int .u32 (adler l))/\w=w':=by
  rcases h with ⟨rfl,a,cap,rfl⟩|⟨g,off,cap,rfl,_,hc⟩
  · exact csum_none a cap w
  · exact csum_row l g off cap w hc hl
def Cur (w:World)(cb:Nat)(v:Value)(sh:Bool):Prop:=w.heap[cb]? =some (.cells #[v,.bool sh] 205 (0,0))
theorem Cur.c0 {w:World}{cb:Nat}{v:Value}{sh:Bool}(h:Cur w cb v sh):w.cell? ⟨cb,0,none⟩=some v:=by
  unfold Cur at h;simp[World.cell?,h]
theorem Cur.c1 {w:World}{cb:Nat}{v:Value}{sh:Bool}(h:Cur w cb v sh):w.cell? ⟨cb,1,none⟩=some (.bool sh):=by
  unfold Cur at h;simp[World.cell?,h]
theorem Cur.fr {w:World}{cb:Nat}{v:Value}{sh:Bool}(h:Cur w cb v sh)(i:Nat):w.frozen? ⟨cb,i,none⟩=false:=by
  unfold Cur at h;simp[World.frozen?,h]
theorem Cur.set0 {w:World}{cb:Nat}{v:Value}{sh:Bool}(h:Cur w cb v sh)(u:Value):Cur (w.setCell ⟨cb,0,none⟩ u) cb u sh:=by
  unfold Cur at h ⊢
  simp[World.setCell,Array.getElem?_modify,h]
theorem Cur.set1 {w:World}{cb:Nat}{v:Value}{sh:Bool}(h:Cur w cb v sh)(b:Bool):Cur (w.setCell ⟨cb,1,none⟩ (.bool b)) cb v b:=by
  unfold Cur at h ⊢
  simp[World.setCell,Array.getElem?_modify,h]
theorem grown_set (w:World)(b o:Nat)(u:Value):w.grownBy (w.setCell ⟨b,o,none⟩ u) (some b):=
  ⟨rfl,rfl,rfl,by simp[World.setCell],λk _ hne=>by
    have:b≠k:=λe=>hne (by rw[e])
    simp[World.setCell,Array.getElem?_modify,this]⟩
def BV (w:World)(v:Value)(R:List UInt8):Prop:=
  (R=[]/\v=.slice none 0 0)\/∃g off cap,v=.slice (some ⟨g,off,none⟩) R.length cap/\R.length<=cap/\(cap<9223372036854775808/\R.length<1099511627776)/\g<w.heap.size/\∀i (h:i<R.length),w.cell? ⟨g,off+i,none⟩=some (.int .u8 R[i].toNat)
theorem BV.at {w:World}{v:Value}{R:List UInt8}(h:BV w v R):BytesAt w v R:=by
  rcases h with ⟨rfl,rfl⟩|⟨g,off,cap,rfl,_,_,hg,hc⟩
  · exact .inl ⟨rfl,_,_,rfl⟩
  · exact .inr ⟨g,off,cap,rfl,hg,hc⟩
theorem Cur.ne {w:World}{cb:Nat}{x:Value}{sh:Bool}(h:Cur w cb x sh)(hx:∃a n c,x=.slice a n c){g o:Nat}{b:Nat}(hc:w.cell? ⟨g,o,none⟩=some (.int .u8 b)):g≠cb:=by
  rintro rfl
  obtain⟨a,n,c,rfl⟩:=hx
  unfold Cur at h
  simp only[World.cell?,h] at hc
  rcases o with _|_|o
  · simp at hc
  · simp at hc
  · simp at hc
theorem BV.form {w:World}{v:Value}{R:List UInt8}(h:BV w v R):∃a n c,v=.slice a n c:=by
  rcases h with ⟨_,rfl⟩|⟨g,off,cap,rfl,_⟩
  · exact⟨_,_,_,rfl⟩
  · exact⟨_,_,_,rfl⟩
theorem BV.keep {w w':World}{cb:Nat}{x v:Value}{sh:Bool}{R:List UInt8}(h:BV w v R)(hC:Cur w cb x sh)(hx:∃a n c,x=.slice a n c)(hg:w.grownBy w' (some cb)):BV w' v R:=by
  rcases h with h|⟨g,off,cap,h1,h2,h3,h4,h5⟩
  · exact .inl h
  · refine .inr ⟨g,off,cap,h1,h2,h3,Nat.lt_of_lt_of_le h4 hg.size,λi hi=>hg.cell (h5 i hi) (λe=>?_)⟩
    exact hC.ne hx (h5 i hi) (by simpa using e)
theorem BV.later {w w':World}{v:Value}{R:List UInt8}(h:BV w v R)(hb:Below w.heap.size w w'):BV w' v R:=by
  rcases h with h|⟨g,off,cap,h1,h2,h3,h4,h5⟩
  · exact .inl h
  · exact .inr ⟨g,off,cap,h1,h2,h3,Nat.lt_of_lt_of_le h4 hb.size,λi hi=>jcell_after hb (h5 i hi)⟩
def Took (e:Ending)(w w':World)(cb:Nat)(v:Value)(sh:Bool)(R:List UInt8)(n:Nat):Prop:=
  ((n<=R.length/\∃u v',e=.returned u/\Cur w' cb v' sh/\BV w' u (R.take n)/\BV w' v' (R.drop n)/\u.ownBlock=v.ownBlock/\v'.ownBlock=v.ownBlock)\/(R.length<n/\e=.returned (.slice none 0 0)/\Cur w' cb v true/\BV w' v R))/\w.grownBy w' (some cb)
theorem take_any (cb n:Nat)(v:Value)(sh:Bool)(R:List UInt8)(w:World)(hC:Cur w cb v sh)(hV:BV w v R)(hn:n<18446744073709551616):
    Calls prog 165 #[.pointer (some ⟨cb,0,none⟩),.int .u64 n] w λe w'=>Took e w w' cb v sh R n:=by
  have c0:=hC.c0
  have f0:=hC.fr 0
  have c1:=hC.c1
  have f1:=hC.fr 1
  have HC:Hid (Cur w cb v sh):=hC
  have HV:Hid (BV w v R):=hV
  by_cases hlt:R.length<n
  · have key:∃a c,v=.slice a R.length c:=by
      rcases hV with ⟨rfl,rfl⟩|⟨g,off,cap,rfl,_⟩
      · exact⟨_,_,rfl⟩
      · exact⟨_,_,rfl⟩
    obtain⟨a,c,rfl⟩:=key
    have hl40:R.length<1099511627776:=by
      rcases hV with ⟨rfl,_⟩|⟨g,off,cap,h1,h2,h3,_⟩
      · decide
      · omega
    have hlt':(R.length:Int)<n:=by omega
    clear hC hV
    go_enter func165,ntmps165
    go_wp2
    go_ret
    exact⟨.inr ⟨hlt,rfl,HC.out.set1 true,HV.out.keep HC.out ⟨_,_,_,rfl⟩ (grown_set _ _ _ _)⟩,grown_set _ _ _ _⟩
  · have hle:n<=R.length:=by omega
    rcases hV with ⟨rfl,rfl⟩|⟨g,off,cap,rfl,h2,h3,h4,h5⟩
    · obtain rfl:n=0:=by simpa using hle
      clear hC
      go_enter func165,ntmps165
      go_wp2
      go_ret
      exact⟨.inl ⟨hle,_,_,rfl,HC.out.set0 _,.inl ⟨rfl,rfl⟩,.inl ⟨rfl,rfl⟩,rfl,rfl⟩,grown_set _ _ _ _⟩
    · have hlt':¬((R.length:Int)<n):=by omega
      have KA:Hid (∀w',w.grownBy w' (some cb)->BV w' (.slice (some ⟨g,off,none⟩) n cap) (R.take n)):=λw' hg=>BV.keep (.inr ⟨g,off,cap,by rw[List.length_take,Nat.min_eq_left hle],by rw[List.length_take];omega,⟨h3.1,by rw[List.length_take];omega⟩,h4,λi hi=>by
        rw[List.length_take] at hi
        rw[List.getElem_take];exact h5 i (by omega)⟩) HC.out ⟨_,_,_,rfl⟩ hg
      have KB:Hid (∀w' o,(o=off+n\/cap-n=0)->w.grownBy w' (some cb)->BV w' (.slice (some ⟨g,o,none⟩) (R.length-n) (cap-n)) (R.drop n)):=λw' o ho hg=>BV.keep (.inr ⟨g,o,cap-n,by rw[List.length_drop],by rw[List.length_drop];omega,⟨by omega,by rw[List.length_drop];omega⟩,h4,λi hi=>by
        rw[List.length_drop] at hi
        rcases ho with rfl|ho
        · rw[List.getElem_drop,Nat.add_assoc];exact h5 (n+i) (by omega)
        · omega⟩) HC.out ⟨_,_,_,rfl⟩ hg
      clear hC h4 h5
      by_cases hcn:cap=n
      · subst hcn
        go_enter func165,ntmps165
        go_wp2
        go_ret
        exact⟨.inl ⟨hle,_,_,rfl,HC.out.set0 _,KA.out _ (grown_set _ _ _ _),by have:=KB.out _ off (.inr (by omega)) (grown_set w cb 0 (.slice (some ⟨g,off,none⟩) 0 0));rwa [show R.length-cap=0 by omega,Nat.sub_self] at this,rfl,rfl⟩,grown_set _ _ _ _⟩
      · go_enter func165,ntmps165
        go_wp2
        go_ret
        exact⟨.inl ⟨hle,_,_,rfl,HC.out.set0 _,KA.out _ (grown_set _ _ _ _),KB.out _ _ (.inl rfl) (grown_set _ _ _ _),rfl,rfl⟩,grown_set _ _ _ _⟩
end Go.Proofs.YtgamgomepdfgdaaGreat
