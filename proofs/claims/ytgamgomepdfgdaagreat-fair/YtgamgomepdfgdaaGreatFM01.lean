import Derived.Test.YtgamgomepdfgdaaGreatProg
import Derived.Below
import Derived.OrdersHeld
import Derived.WalkKit
import Derived.Deep.RegionHeldLaw
import Derived.Lib.Bytealg
import Derived.Lib.Strings
import Derived.WalkSpells
import Derived.Deep.Draws
import Derived.WalkLawsBesides
import Derived.BigQuiet
import Derived.Laws.StructEq
import Derived.Deep.QuietTactic
import Derived.Laws.IdiomStrings
import Derived.Laws.Tables
import Derived.Deep.DeepFit
set_option maxRecDepth 100000
set_option maxHeartbeats 8000000
namespace Go.Proofs.YtgamgomepdfgdaaGreat
open Go.RowKit Go.Proofs.Tryz
abbrev I (n : Int) : Value := .int .i64 n
abbrev Px (b : Nat) : Value := .pointer (some ⟨b, 0, none⟩)
abbrev Zn : Value := .slice none 0 0
abbrev Bl (w w' : World) : Prop := Below w.heap.size w w'
abbrev z_ (w : World) : Nat := w.heap.size
abbrev s_ (g o n c : Nat) : Value := .slice (some ⟨g, o, none⟩) n c
abbrev c_ (f : Nat) (args : Array Value) (w : World) (R : Ending → World → Prop) : Prop := Calls prog f args w R
theorem hd {p : Prop} (h : p) : Hid p := h
theorem tk {P : Program} {ops : Array Oper} {Q : Exit → Act → World → Prop} {md : Region.Mode} {S : World → Prop} (i : Nat) {oi : Oper} {v : Value} {fuel : Nat} {listed : Array Bool} {a a' : Act} {w : World}
    (h : wpAnyH P md ops Q S fuel (listed.setIfInBounds i true) a' w) (hi : ops[i]? = some oi := by exact rfl) (hs : Region.noSelect ops = true := by kernel_rfl) (hf : Region.free md ops listed i = true := by kernel_rfl) (hr : (Region.ready md ops listed).contains i = true := by kernel_rfl)
    (hy1 : Region.wanted oi (yielded ops a.tmps) = true := by rfl) (hy2 : ∀ w, S w → (execOp a.eval oi).run P w = .ok (.value v) w := by (intro w9 hSw; (try dsimp only at hSw); go_simp <;> with_reducible rfl))
    (hQ : ∀ c b u, Q (.panic c) (b.put oi.dst v) u → Q (.panic c) b u := by exact fun _ _ _ h => h) (hS : S w := by assumption)
    (ha : a.put oi.dst v = a' := by ((try simp only [Act.put, List.getElem_toArray, List.getElem_cons_zero, List.getElem_cons_succ, List.setIfInBounds_toArray, List.set_cons_zero, List.set_cons_succ]); with_reducible rfl)) : wpAnyH P md ops Q S (fuel + 1) listed a w := by
  subst ha
  exact wpAnyH_take hi hs hf hr hQ (.inl ⟨hy1, hy2⟩) hS h
theorem be_ {P : Program} {fn : Func} {R : Ending → World → Prop} {a : Act} {w : World} (hR : R (.returned (.tuple #[])) w) (hr : fn.results = #[] := by kernel_rfl) (hd : a.defers = [] := by rfl) : bodyPost P fn R .normal a w := bodyPost_end (results_none hr _ _ _) hd hR
theorem rd_ {P : Program} {ops : Array Oper} {Q : Exit → Act → World → Prop} {md : Region.Mode} {S : World → Prop} (i : Nat) (rs : List Nat) {o : Oper} {fuel : Nat} {listed : Array Bool} {a : Act} {w : World} (ho : ops[i]? = some o)
    (h : ∀ K' : Act → World → Prop, Shut (∀ a w, S w → (S w → wpAnyH P md ops Q S fuel (listed.setIfInBounds i true) a w) → K' a w) → if Region.wanted o (yielded ops a.tmps) = true then Oper.wp P o a w K' Q else K' (a.put o.dst undef) w)
    (hs : AllReadyH P md ops Q S fuel listed a w rs) (hr : Region.ready md ops listed = i :: rs := by kernel_rfl) : wpAnyH P md ops Q S (fuel + 1) listed a w := wpAnyH_ready hr (by simp) (AllReadyH.cons ho h hs)
abbrev Fl:=ByteArray×ByteArray
abbrev Ed:=ByteArray×ByteArray×ByteArray
theorem eq_of_toList {a b:ByteArray}(h:a.toList=b.toList):a=b:=by
  rw[Lib.toList_data,Lib.toList_data] at h
  rw[<-Lib.mk_data a,<-Lib.mk_data b,h]
theorem eq_of_data {a b:ByteArray}(h:a.data.toList=b.data.toList):a=b:=eq_of_toList (by rw[Lib.toList_data,Lib.toList_data,h])
theorem beq_true_iff (a b:ByteArray):(a.toList==b.toList)=true↔a=b:=by
  rw[beq_iff_eq];exact⟨eq_of_toList,λh=>by rw[h]⟩
theorem beq_false_iff (a b:ByteArray):(a.toList==b.toList)=false↔a≠b:=by
  rw[<-Bool.not_eq_true,beq_true_iff]
theorem empty_iff (s:ByteArray):s.toList.isEmpty=true↔s=⟨#[]⟩:=by
  rw[List.isEmpty_iff]
  constructor
  · intro h;exact eq_of_toList (by rw[h,Lib.toList_data])
  · intro h;rw[h,Lib.toList_data]
def standsL:List Fl->ByteArray->ByteArray
  |[],_=>⟨#[]⟩
  |f::l,q=>if f.1.toList==q.toList then f.2 else standsL l q
theorem standsL_hit (f:Fl)(l:List Fl)(q:ByteArray)(h:(f.1.toList==q.toList)=true):standsL (f::l) q=f.2:=by simp[standsL,h]
theorem standsL_miss (f:Fl)(l:List Fl)(q:ByteArray)(h:(f.1.toList==q.toList)=false):standsL (f::l) q=standsL l q:=by simp[standsL,h]
def Apart {α:Type}(key:α->ByteArray)(l:List α):Prop:=l.Pairwise λa b=>key a≠key b
theorem standsL_none {l:List Fl}{q:ByteArray}(h:∀f∈l,f.1≠q):standsL l q=⟨#[]⟩:=by
  induction l with
  |nil=>rfl
  |cons f l ih=>
    rw[standsL_miss _ _ _ ((beq_false_iff _ _).2 (h f (by simp)))]
    exact ih λg hg=>h g (by simp[hg])
theorem standsL_mem {l:List Fl}(ha:Apart Prod.fst l){f:Fl}(hf:f∈l):standsL l f.1=f.2:=by
  induction l with
  |nil=>cases hf
  |cons g l ih=>
    have hp:=List.pairwise_cons.1 ha
    rcases List.mem_cons.1 hf with rfl|hf
    · exact standsL_hit _ _ _ ((beq_true_iff _ _).2 rfl)
    · rw[standsL_miss _ _ _ ((beq_false_iff _ _).2 (hp.1 f hf))]
      exact ih hp.2 hf
theorem standsL_found {l:List Fl}{q:ByteArray}(h:standsL l q≠⟨#[]⟩):(q,standsL l q)∈l:=by
  induction l with
  |nil=>exact absurd rfl h
  |cons f l ih=>
    by_cases e:f.1=q
    · rw[standsL_hit _ _ _ ((beq_true_iff _ _).2 e)]
      rw[<-e];simp
    · rw[standsL_miss _ _ _ ((beq_false_iff _ _).2 e)] at h ⊢
      exact List.mem_cons_of_mem _ (ih h)
theorem mem_iff_stands {l:List Fl}(ha:Apart Prod.fst l)(hn:∀f∈l,f.2≠⟨#[]⟩)(f:Fl):f∈l↔standsL l f.1=f.2/\f.2≠⟨#[]⟩:=by
  constructor
  · intro h;exact⟨standsL_mem ha h,hn f h⟩
  · rintro⟨h,hne⟩
    have:=standsL_found (l:=l) (q:=f.1) (by rw[h];exact hne)
    rw[h] at this;exact this
def Rising (l:List Fl):Prop:=l.Pairwise λa b=>a.1.data.toList<b.1.data.toList
theorem Rising.apart {l:List Fl}(h:Rising l):Apart Prod.fst l:=h.imp fun {a b} hlt e=>by rw[e] at hlt;exact List.lt_irrefl _ hlt
def Told (l:List Fl)(g:ByteArray->ByteArray):Prop:=Rising l/\(∀f∈l,f.2≠⟨#[]⟩)/\∀q,standsL l q=g q
theorem Apart.nodup {l:List Fl}(h:Apart Prod.fst l):l.Nodup:=List.Pairwise.imp (λhne e=>hne (by rw[e])) h
theorem told_of_mem {l:List Fl}{g:ByteArray->ByteArray}(hr:Rising l)(hm:∀f,f∈l↔g f.1=f.2/\f.2≠⟨#[]⟩):Told l g:=by
  refine⟨hr,λf hf=>((hm f).1 hf).2,λq=>?_⟩
  by_cases h:g q=⟨#[]⟩
  · rw[h]
    refine standsL_none λf hf e=>?_
    have:=(hm f).1 hf
    rw[e,h] at this
    exact this.2 this.1.symm
  · exact standsL_mem hr.apart ((hm (q,g q)).2 ⟨rfl,h⟩)
def upd (g:ByteArray->ByteArray)(q b:ByteArray):ByteArray->ByteArray:=λx=>if q.toList==x.toList then b else g x
theorem upd_same (g:ByteArray->ByteArray)(q b:ByteArray):upd g q b q=b:=by simp[upd]
theorem upd_other (g:ByteArray->ByteArray){q x:ByteArray}(b:ByteArray)(h:q≠x):upd g q b x=g x:=by
  unfold upd;rw[(beq_false_iff q x).2 h];rfl
def edited (g:ByteArray->ByteArray)(es:List Ed):ByteArray->ByteArray:=es.foldl (λg e=>upd g e.1 e.2.2) g
theorem edited_snoc (g:ByteArray->ByteArray)(es:List Ed)(e:Ed):edited g (es++[e])=upd (edited g es) e.1 e.2.2:=by simp[edited,List.foldl_append]
theorem edited_other {g:ByteArray->ByteArray}{es:List Ed}{q:ByteArray}(h:∀e∈es,e.1≠q):edited g es q=g q:=by
  induction es generalizing g with
  |nil=>rfl
  |cons e es ih=>
    show edited (upd g e.1 e.2.2) es q=g q
    rw[ih λx hx=>h x (by simp[hx])]
    exact upd_other _ _ (h e (by simp))
def Good {α:Type}(ok:α->Bool)(key:α->ByteArray)(l:List α):Prop:=(∀x∈l,ok x=true)/\Apart key l
theorem Good.nil {α:Type}(ok:α->Bool)(key:α->ByteArray):Good ok key []:=⟨by simp,List.Pairwise.nil⟩
theorem good_succ {α:Type}{ok:α->Bool}{key:α->ByteArray}{l:List α}{k:Nat}(hk:k<l.length):
    Good ok key (l.take (k+1))↔Good ok key (l.take k)/\ok l[k]=true/\∀j (h:j<k),key (l[j]'(by omega))≠key l[k]:=by
  rw[List.take_succ_eq_append_getElem hk]
  unfold Good Apart
  rw[List.pairwise_append]
  constructor
  · rintro⟨h1,h2,_,h3⟩
    refine⟨⟨λx hx=>h1 x (List.mem_append_left _ hx),h2⟩,h1 _ (List.mem_append_right _ (List.mem_singleton.2 rfl)),λj hj=>h3 _ ?_ _ (by simp)⟩
    rw[List.mem_iff_getElem]
    exact⟨j,by rw[List.length_take];omega,by rw[List.getElem_take]⟩
  · rintro⟨⟨h1,h2⟩,h3,h4⟩
    refine⟨λx hx=>?_,h2,by simp,λa ha b hb=>?_⟩
    · rcases List.mem_append.1 hx with h|h
      · exact h1 x h
      · rw[List.mem_singleton.1 h];exact h3
    · rw[List.mem_singleton.1 hb]
      obtain⟨j,hj,rfl⟩:=List.mem_iff_getElem.1 ha
      rw[List.length_take] at hj
      rw[List.getElem_take]
      exact h4 j (by omega)
def okText (s:ByteArray):Bool:=decide (s.size<=8)
def okFill (s:ByteArray):Bool:= !s.toList.isEmpty&&okText s
def okFl (f:Fl):Bool:=okFill f.1&&okFill f.2
def okEdit (p o n:ByteArray):Bool:=okFill p&&okText o&&okText n&& !(o.toList==n.toList)
def okEd (e:Ed):Bool:=okEdit e.1 e.2.1 e.2.2
theorem okText_iff (s:ByteArray):okText s=true↔s.size<=8:=by simp[okText]
theorem okFill_iff (s:ByteArray):okFill s=true↔1<=s.size/\s.size<=8:=by
  unfold okFill
  rw[Bool.and_eq_true,okText_iff,Bool.not_eq_true',<-Bool.not_eq_true,List.isEmpty_iff,Lib.toList_data,Lib.size_eq]
  have:¬s.data.toList=[]↔1<=s.data.toList.length:=by
    rw[<-ne_eq,<-List.length_pos_iff];exact Iff.rfl
  rw[this]
theorem okFl_iff (f:Fl):okFl f=true↔(1<=f.1.size/\f.1.size<=8)/\1<=f.2.size/\f.2.size<=8:=by
  unfold okFl;rw[Bool.and_eq_true,okFill_iff,okFill_iff]
theorem okEd_iff (e:Ed):okEd e=true↔(1<=e.1.size/\e.1.size<=8)/\e.2.1.size<=8/\e.2.2.size<=8/\e.2.1≠e.2.2:=by
  unfold okEd okEdit;rw[Bool.and_eq_true,Bool.and_eq_true,Bool.and_eq_true,okFill_iff,okText_iff,okText_iff,Bool.not_eq_true',beq_false_iff,and_assoc,and_assoc]
def RetIff (e:Ending)(p:Prop):Prop:=∃r:Bool,e=.returned (.bool r)/\(r=true↔p)
theorem RetIff.yes {p:Prop}(h:p):RetIff (.returned (.bool true)) p:=⟨true,rfl,⟨λ_=>h,λ_=>rfl⟩⟩
theorem RetIff.no {p:Prop}(h:¬p):RetIff (.returned (.bool false)) p:=⟨false,rfl,⟨λx=>Bool.noConfusion x,λx=>absurd x h⟩⟩
def Drew (w w':World):Prop:=∃n,w'=w.drewN n
theorem Drew.refl (w:World):Drew w w:=⟨0,rfl⟩
theorem Drew.one (w:World)(n:Nat):Drew w (w.drewN n):=⟨n,rfl⟩
theorem Drew.two (w:World)(n m:Nat):Drew w ((w.drewN n).drewN m):=⟨n+m,by simp⟩
theorem Drew.below {w w':World}(h:Drew w w'):Below w.heap.size w w':=by
  obtain⟨n,rfl⟩:=h
  exact⟨rfl,rfl,rfl,Nat.le_refl _,λ_ _=>rfl⟩
def cF (f:Fl):List Value:=[.string f.1,.string f.2]
def cE (e:Ed):List Value:=[.string e.1,.string e.2.1,.string e.2.2]
def FilesAt (w:World)(v:Value)(l:List Fl):Prop:=
  (l=[]/\∃a cap,v=.slice a 0 cap)\/
  ∃b off cap,v=.slice (some ⟨b,off,none⟩) l.length cap/\b<w.heap.size/\
    (∀i (h:i<l.length),w.cell? ⟨b,off+i*2,none⟩=some (.string l[i].1))/\
    (∀i (h:i<l.length),w.cell? ⟨b,off+i*2+1,none⟩=some (.string l[i].2))
def EditsAt (w:World)(v:Value)(l:List Ed):Prop:=
  (l=[]/\∃a cap,v=.slice a 0 cap)\/
  ∃b off cap,v=.slice (some ⟨b,off,none⟩) l.length cap/\b<w.heap.size/\
    (∀i (h:i<l.length),w.cell? ⟨b,off+i*3,none⟩=some (.string l[i].1))/\
    (∀i (h:i<l.length),w.cell? ⟨b,off+i*3+1,none⟩=some (.string l[i].2.1))/\
    (∀i (h:i<l.length),w.cell? ⟨b,off+i*3+2,none⟩=some (.string l[i].2.2))
theorem FilesAt.kept {w w':World}{v:Value}{l:List Fl}(h:FilesAt w v l)(hs:w.heap.size<=w'.heap.size)(hb:∀k,v.ownBlock=some k->k<w.heap.size->w'.heap[k]? =w.heap[k]?):FilesAt w' v l:=by
  rcases h with h|⟨b,off,cap,rfl,hlt,h0,h1⟩
  · exact .inl h
  · have e:=hb b rfl hlt
    exact .inr ⟨b,off,cap,rfl,Nat.lt_of_lt_of_le hlt hs,λi h=>(World.cell?_of_block (w:=w) e).trans (h0 i h),λi h=>(World.cell?_of_block (w:=w) e).trans (h1 i h)⟩
theorem EditsAt.kept {w w':World}{v:Value}{l:List Ed}(h:EditsAt w v l)(hs:w.heap.size<=w'.heap.size)(hb:∀k,v.ownBlock=some k->k<w.heap.size->w'.heap[k]? =w.heap[k]?):EditsAt w' v l:=by
  rcases h with h|⟨b,off,cap,rfl,hlt,h0,h1,h2⟩
  · exact .inl h
  · have e:=hb b rfl hlt
    exact .inr ⟨b,off,cap,rfl,Nat.lt_of_lt_of_le hlt hs,λi h=>(World.cell?_of_block (w:=w) e).trans (h0 i h),λi h=>(World.cell?_of_block (w:=w) e).trans (h1 i h),λi h=>(World.cell?_of_block (w:=w) e).trans (h2 i h)⟩
theorem FilesAt.later {w w':World}{v:Value}{l:List Fl}(h:FilesAt w v l)(hb:Below w.heap.size w w'):FilesAt w' v l:=h.kept hb.size λk _ hk=>hb.block k hk
theorem EditsAt.later {w w':World}{v:Value}{l:List Ed}(h:EditsAt w v l)(hb:Below w.heap.size w w'):EditsAt w' v l:=h.kept hb.size λk _ hk=>hb.block k hk
theorem FilesAt.grown {w w':World}{v:Value}{l:List Fl}{row:Option Nat}(h:FilesAt w v l)(hg:w.grownBy w' row)(hne:v.ownBlock=none\/v.ownBlock≠row):FilesAt w' v l:=
  h.kept hg.size λk hk hlt=>hg.block k hlt (by rcases hne with h|h<;>simp_all)
theorem EditsAt.grown {w w':World}{v:Value}{l:List Ed}{row:Option Nat}(h:EditsAt w v l)(hg:w.grownBy w' row)(hne:v.ownBlock=none\/v.ownBlock≠row):EditsAt w' v l:=
  h.kept hg.size λk hk hlt=>hg.block k hlt (by rcases hne with h|h<;>simp_all)
theorem flat_get {α:Type}(enc:α->List Value)(k:Nat)(hk:∀x,(enc x).length=k):∀(l:List α) (i j:Nat) (h:i<l.length),j<k->(l.flatMap enc)[i*k+j]? =(enc l[i])[j]?
  |[],_,_,h,_=>by simp at h
  |x::l,0,j,_,hj=>by simp[List.getElem?_append_left (show j<(enc x).length by rw[hk];exact hj)]
  |x::l,i+1,j,h,hj=>by
    have e:(i+1)*k+j=(enc x).length+(i*k+j):=by rw[hk];rw[Nat.add_mul];omega
    rw[List.flatMap_cons,e,List.getElem?_append_right (by omega),Nat.add_sub_cancel_left]
    exact flat_get enc k hk l i j (by simpa using h) hj
theorem flat_len {α:Type}(enc:α->List Value)(k:Nat)(hk:∀x,(enc x).length=k):∀l:List α,(l.flatMap enc).length=l.length*k
  |[]=>by simp
  |x::l=>by rw[List.flatMap_cons,List.length_append,hk,flat_len enc k hk l,List.length_cons,Nat.add_mul];omega
theorem addr_add (g n:Nat):(⟨g,0,none⟩:Addr).add n=⟨g,0+n,none⟩:=by
  unfold Addr.add
  by_cases h:n=0
  · subst h;simp
  · simp[h]
theorem FilesAt.of_row {w:World}{base:Nat}{e:TypeId}{v:Value}{l:List Fl}(h:w.ownsRow base e 2 v l.length (l.flatMap cF)):FilesAt w v l:=by
  rcases h.2 with ⟨rfl,h0⟩|⟨g,cap,cur,rfl,hb,hg,_⟩
  · exact .inl ⟨List.length_eq_zero_iff.1 h0,_,_,rfl⟩
  · have hc:=h.cells (g:=g) rfl
    refine .inr ⟨g,0,cap,rfl,(Array.getElem?_eq_some_iff.1 hg).1,λi hi=>?_,λi hi=>?_⟩
    · have:=hc (i*2+0) (.string l[i].1) (by rw[flat_get cF 2 (λ_=>rfl) l i 0 hi (by omega)];rfl)
      simpa[addr_add] using this
    · have:=hc (i*2+1) (.string l[i].2) (by rw[flat_get cF 2 (λ_=>rfl) l i 1 hi (by omega)];rfl)
      simpa[addr_add] using this
theorem EditsAt.of_row {w:World}{base:Nat}{e:TypeId}{v:Value}{l:List Ed}(h:w.ownsRow base e 3 v l.length (l.flatMap cE)):EditsAt w v l:=by
  rcases h.2 with ⟨rfl,h0⟩|⟨g,cap,cur,rfl,hb,hg,_⟩
  · exact .inl ⟨List.length_eq_zero_iff.1 h0,_,_,rfl⟩
  · have hc:=h.cells (g:=g) rfl
    refine .inr ⟨g,0,cap,rfl,(Array.getElem?_eq_some_iff.1 hg).1,λi hi=>?_,λi hi=>?_,λi hi=>?_⟩
    · have:=hc (i*3+0) (.string l[i].1) (by rw[flat_get cE 3 (λ_=>rfl) l i 0 hi (by omega)];rfl)
      simpa[addr_add] using this
    · have:=hc (i*3+1) (.string l[i].2.1) (by rw[flat_get cE 3 (λ_=>rfl) l i 1 hi (by omega)];rfl)
      simpa[addr_add] using this
    · have:=hc (i*3+2) (.string l[i].2.2) (by rw[flat_get cE 3 (λ_=>rfl) l i 2 hi (by omega)];rfl)
      simpa[addr_add] using this
theorem ret_str {a b:ByteArray}(h:a=b):Ending.returned (.string a)=.returned (.string b):=by rw[h]
theorem drop_cons {α:Type}(l:List α)(k:Nat)(h:k<l.length):l.drop k=l[k]::l.drop (k+1):=List.drop_eq_getElem_cons h
theorem law_stands (l:List Fl)(q:ByteArray)(v:Value)(w:World)(hl:FilesAt w v l)(hn:l.length<8796093022208):
    Calls prog 102 #[v,.string q] w λe w'=>e=.returned (.string (standsL l q))/\w'=w:=by
  rcases hl with ⟨rfl,a,cap,rfl⟩|⟨b,off,cap,rfl,hlt,h0,h1⟩
  · go_enter func102,ntmps102
    go_wp2
    go_loop [5] (λi=>i=.int .i64 0) (λ_=>0)
    case atStart=>rfl
    case round=>
      subst hrel
      go_wp2
      go_ret
      exact⟨rfl,rfl⟩
  · go_enter func102,ntmps102
    go_wp2
    go_loop [5] (λi=>∃k:Nat,k<=l.length/\i=.int .i64 k/\Hid (standsL l q=standsL (l.drop k) q)) (λi=>l.length-(intOf i).toNat)
    case atStart=>exact⟨0,Nat.zero_le _,rfl,rfl⟩
    case round=>
      obtain⟨k,hk,rfl,hs⟩:=hrel
      by_cases hlt:k<l.length
      · have hd:=drop_cons l k hlt
        have H1:Hid ((l[k].1.toList==q.toList)=true->standsL l q=l[k].2):=λh=>by rw[hs.out,hd];exact standsL_hit _ _ _ h
        have H2:Hid ((l[k].1.toList==q.toList)=false->standsL l q=standsL (l.drop (k+1)) q):=λh=>by rw[hs.out,hd];exact standsL_miss _ _ _ h
        clear hd
        go_wp2
        · go_ret
          exact⟨ret_str (H1.out ‹_›).symm,rfl⟩
        · exact⟨⟨k+1,hlt,by go_num,H2.out ‹_›⟩,by simp[intOf];omega⟩
      · go_wp2
        go_ret
        exact⟨ret_str (by rw[hs.out,List.drop_of_length_le (by omega)];rfl),rfl⟩
def be:Nat->Nat->List UInt8
  |0,_=>[]
  |k+1,n=>be k (n/256)++[UInt8.ofNat (n%256)]
theorem be_len:∀k n,(be k n).length=k
  |0,_=>rfl
  |k+1,n=>by rw[be,List.length_append,be_len k];rfl
theorem be_succ (k n:Nat):be (k+1) n=be k (n/256)++[UInt8.ofNat (n%256)]:=rfl
theorem be_head:∀k n,be (k+1) n=UInt8.ofNat (n/256^k%256)::be k n
  |0,n=>by simp[be]
  |k+1,n=>by
    rw[be_succ,be_head k (n/256),be_succ k n,Nat.div_div_eq_div_mul,List.cons_append,Nat.pow_succ,Nat.mul_comm (256^k) 256]
def txt (s:ByteArray):List UInt8:=be 1 s.size++s.data.toList
def edB (e:Ed):List UInt8:=txt e.1++txt e.2.1++txt e.2.2
def adl (ab:Nat×Nat)(x:UInt8):Nat×Nat:=((ab.1+x.toNat)%65521,(ab.2+(ab.1+x.toNat)%65521)%65521)
def adlS (l:List UInt8):Nat×Nat:=l.foldl adl (1,0)
def adler (l:List UInt8):Nat:=(adlS l).2*65536+(adlS l).1
theorem adlS_snoc (l:List UInt8)(x:UInt8):adlS (l++[x])=adl (adlS l) x:=by simp[adlS]
theorem adl_lt {ab:Nat×Nat}(x:UInt8):(adl ab x).1<65521/\(adl ab x).2<65521:=⟨Nat.mod_lt _ (by decide),Nat.mod_lt _ (by decide)⟩
theorem adlS_lt (l:List UInt8):(adlS l).1<65521/\(adlS l).2<65521:=by
  rcases List.eq_nil_or_concat l with rfl|⟨m,x,rfl⟩
  · exact⟨by decide,by decide⟩
  · rw[List.concat_eq_append,adlS_snoc];exact adl_lt x
structure Rc where
  kind:Nat
  lane:Nat
  num:Nat
  pass:Bool
  edits:List Ed
def Rc.body (r:Rc):List UInt8:=
  (if r.kind=1 then be 1 r.lane++be 1 r.edits.length++r.edits.flatMap edB else [])++
  (if r.kind=4 then be 1 (if r.pass then 1 else 0) else [])++
  (if r.kind≠3/\r.kind≠7 then be 8 r.num else [])
def Rc.head (r:Rc):List UInt8:=be 1 r.kind++be 4 r.body.length++r.body
def Rc.bytes (r:Rc):List UInt8:=r.head++be 4 (adler r.head)
theorem jcell_lt {w:World}{b o:Nat}{v:Value}(h:w.cell? ⟨b,o,none⟩=some v):b<w.heap.size:=by
  by_cases hb:b<w.heap.size
  · exact hb
  · have:w.heap[b]? =none:=Array.getElem?_eq_none (by omega)
    simp[World.cell?,this] at h
theorem jcell_after {w w':World}{b o:Nat}{v:Value}(hb:Below w.heap.size w w')(h:w.cell? ⟨b,o,none⟩=some v):w'.cell? ⟨b,o,none⟩=some v:=
  (World.cell?_of_block (w:=w) (hb.block b (jcell_lt h))).trans h
theorem below_mk {w w1:World}{o:Obj}(hb:Below (w.alloc o).heap.size (w.alloc o) w1):Below w.heap.size w w1:=((Below.refl _ _).alloc (Nat.le_refl _) o).trans (hb.mono (by simp))
theorem wrap_i64 {n:Int}(h:-9223372036854775808<=n)(h':n<9223372036854775808):IntKind.i64.wrap n=n:=by
  simp[IntKind.wrap,IntKind.bits,IntKind.signed];omega
theorem byte_nat {n:Nat}(h:n<256):((UInt8.ofNat n).toNat:Int)=n:=by
  rw[UInt8.toNat_ofNat'];omega
theorem below_then {w w1 w2:World}(h:Below w.heap.size w w1)(h2:Below w1.heap.size w1 w2):Below w.heap.size w w2:=h.trans (h2.mono h.size)
end Go.Proofs.YtgamgomepdfgdaaGreat
