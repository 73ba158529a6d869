import Derived.Test.YtgamgomepdfgdaaGreatFM04
import Derived.Test.YtgamgomepdfgdaaGreatFM09
set_option maxRecDepth 100000
set_option maxHeartbeats 8000000
namespace Go.Proofs.YtgamgomepdfgdaaGreat
open Go.RowKit Go.Proofs.Tryz
section
open Go.Maps
theorem lawI:Keyed prog 3:=int_keyed underlying3
theorem underS:prog.underlying 194=some (.map 3 258):=underlying194
theorem keyI {n:Nat}(h:n<9223372036854775808):keyOf prog 3 (.int .i64 n)=some (.int .i64 n):=keyOf_int_mk underlying3 (by simp[Lit.wf,IntKind.min,IntKind.max,IntKind.signed,IntKind.bits];omega)
theorem zeroU (w:World):(zeroValue 258).run prog w=.ok (.agg #[]) w:=by kernel_rfl
def Subm (w:World)(sb:Nat)(ids:List Nat):Prop:=∃D:DataW Unit,w.ownsMap prog 3 unitElem sb ids.length D/\Maps.size D=ids.length/\∀i:Nat,Maps.has D (.int .i64 i)=ids.contains i
theorem Subm.lt {w:World}{sb:Nat}{ids:List Nat}(h:Subm w sb ids):sb<w.heap.size:=by
  obtain⟨D,h1,h2,h3⟩:=h
  exact h1.lt
theorem Subm.same {w w':World}{sb:Nat}{ids:List Nat}(h:Subm w sb ids)(hb:w'.heap[sb]? =w.heap[sb]?):Subm w' sb ids:=by
  obtain⟨D,h1,h2,h3⟩:=h
  refine⟨D,?_,h2,h3⟩
  obtain⟨es,clock,hh,hr⟩:=h1
  exact⟨es,clock,hb.trans hh,hr⟩
theorem Subm.made (w:World):Subm (w.alloc (.map #[] 0)) w.heap.size []:=⟨.map [],World.ownsMap_made _ _ _ _,rfl,λ_=>rfl⟩
theorem Subm.put {w':World}{sb n:Nat}{ids:List Nat}{D:DataW Unit}(hD:IsMap D)(hT:Tidy D)(hs:Maps.size D=ids.length)(hh:∀i:Nat,Maps.has D (.int .i64 i)=ids.contains i)(hn:n∉ids)(h:w'.ownsMap prog 3 unitElem sb (ids.length+1) (D.put (.int .i64 n) (.agg []))):Subm w' sb (ids++[n]):=by
  have h0:Maps.has D (.int .i64 n)=false:=by rw[hh n];simpa using hn
  refine⟨_,by rw[List.length_append];exact h,?_,λi=>?_⟩
  · rw[Maps.size_put hT,h0];simp[hs]
  · by_cases e:i=n
    · subst e
      rw[has_put_same hD (show WideAt.IsKeyLit (Lit.int .i64 (i:Int)) from trivial)];simp
    · rw[has_put_other (λx=>e (by injection x with _ x;omega)),hh i]
      simp[e]
end
def Typed (w:World)(g:Nat)(e:TypeId):Prop:=∃cur,w.heap[g]? =some (.cells cur e (0,0))
theorem Typed.lt {w:World}{g:Nat}{e:TypeId}(h:Typed w g e):g<w.heap.size:=by
  obtain⟨cur,h⟩:=h
  exact(Array.getElem?_eq_some_iff.1 h).1
theorem Typed.later {w w':World}{g:Nat}{e:TypeId}(h:Typed w g e)(hb:Below w.heap.size w w'):Typed w' g e:=by
  have hl:=h.lt
  obtain⟨cur,h⟩:=h
  exact⟨cur,(hb.block g hl).trans h⟩
theorem Typed.set {w:World}{g:Nat}{e:TypeId}(h:Typed w g e)(o:Nat)(u:Value):Typed (w.setCell ⟨g,o,none⟩ u) g e:=by
  obtain⟨cur,h⟩:=h
  exact⟨cur.setIfInBounds o u,by simp[World.setCell,Array.getElem?_modify,h]⟩
theorem Typed.of_row {w:World}{base:Nat}{e:TypeId}{size n g m:Nat}{xs:List Value}(h:w.ownsRow base e size (.slice (some ⟨g,0,none⟩) n m) n xs):Typed w g e:=by
  rcases h.2 with ⟨h',_⟩|⟨g',cap',cur,h',hb,hg,_⟩
  · cases h'
  · cases h'
    exact⟨cur,hg⟩
theorem Sl.of_half {w:World}{g n:Nat}{e:TypeId}{es:List Ed}(h:Half w g es.length es.length es)(ht:Typed w g e)(hn:es.length<=n)(hm:n<=maxLen:=by decide):Sl w e 3 (.slice (some ⟨g,0,none⟩) es.length es.length) es.length (es.flatMap cE):=by
  obtain⟨cur,hc⟩:=ht
  have key:∀j v,w.cell? ⟨g,j,none⟩=some v->cur[j]? =some v:=λj v hv=>by
    simpa[World.cell?,hc] using hv
  refine⟨flat_len cE 3 (λ_=>rfl) es,.inr ⟨g,0,es.length,cur,rfl,hc,Nat.le_refl _,Nat.le_trans hn hm,?_,λj u hu=>?_⟩⟩
  · rcases Nat.eq_zero_or_pos es.length with h0|h0
    · omega
    · obtain⟨v,hv⟩:=(h.2.1 (es.length*3-1) (by omega)).1
      have:=(Array.getElem?_eq_some_iff.1 (key _ _ hv)).1
      omega
  · have hj:=(List.getElem?_eq_some_iff.1 hu).1
    rw[flat_len cE 3 (λ_=>rfl)] at hj
    have hi:j/3<es.length:=by omega
    have e':j=j/3*3+j%3:=by omega
    have hg:=flat_get cE 3 (λ_=>rfl) es (j/3) (j%3) hi (by omega)
    rw[<-e',hu] at hg
    obtain⟨h0,h1,h2⟩:=h.2.2 (j/3) hi hi
    rw[Nat.zero_add]
    rcases (show j%3=0\/j%3=1\/j%3=2 by omega) with hr|hr|hr
    · rw[hr] at hg
      have hv:u=.string es[j/3].1:=by simpa[cE] using hg
      rw[hv,<-key _ _ h0];congr 1;omega
    · rw[hr] at hg
      have hv:u=.string es[j/3].2.1:=by simpa[cE] using hg
      rw[hv,<-key _ _ h1];congr 1;omega
    · rw[hr] at hg
      have hv:u=.string es[j/3].2.2:=by simpa[cE] using hg
      rw[hv,<-key _ _ h2];congr 1;omega
theorem copyEdits_sl (es:List Ed)(b off cap:Nat)(w:World)(hlt:b<w.heap.size)(h0:∀i (h:i<es.length),w.cell? ⟨b,off+i*3,none⟩=some (.string es[i].1))(h1:∀i (h:i<es.length),w.cell? ⟨b,off+i*3+1,none⟩=some (.string es[i].2.1))(h2:∀i (h:i<es.length),w.cell? ⟨b,off+i*3+2,none⟩=some (.string es[i].2.2))(hn:es.length<=4)(hsz:∀x∈es,x.1.size<=281474976710656/\x.2.1.size<=281474976710656/\x.2.2.size<=281474976710656):
    Calls prog 167 #[.slice (some ⟨b,off,none⟩) es.length cap] w λe w'=>e=.returned (.slice (some ⟨w.heap.size,0,none⟩) es.length es.length)/\Sl w' 49 3 (.slice (some ⟨w.heap.size,0,none⟩) es.length es.length) es.length (es.flatMap cE)/\Below w.heap.size w w':=by
  obtain⟨i0,hi,hz0,hz1,hz2⟩:=info_parts info49c
  have q2:i0.bytes*es.length<=281474976710656:=by rw[hz2];omega
  have q3:es.length<=maxLen:=by unfold maxLen;omega
  go_enter func167,ntmps167
  go_wp2_with (at_make;refine wpList_make_full _ rfl _ _ _ rfl w.heap.size _ i0 _ 3 underlying27 hi hz0 hz1 _ _ _ _ es.length rfl rfl (by omega) (by omega) q2 q3 (Nat.le_refl _) ?_;intro w1 hrow1 hg1)
  have H1:Half w1 w.heap.size es.length 0 es:=Half.made hrow1
  have hb1:Below w.heap.size w w1:=(Below.refl _ _).grown hg1 (Nat.le_refl _) (by simp)
  have T1:Typed w1 w.heap.size 49:=Typed.of_row hrow1
  clear hrow1 hg1 q2 q3
  go_loopw [11] (λi wr=>∃k:Nat,k<=es.length/\i=.int .i64 k/\Half wr w.heap.size es.length k es/\Below w.heap.size w wr/\Hid (Typed wr w.heap.size 49)) (λi _=>es.length-(intOf i).toNat)
  case atStart=>exact⟨0,Nat.zero_le _,rfl,H1,hb1,T1⟩
  case round=>
    obtain⟨k,hk,rfl,hH,hb,hT⟩:=hrel
    clear H1 hb1 T1
    by_cases hlk:k<es.length
    · obtain⟨g0,g1,g2,gb⟩:=edits_cells hb hlt h0 h1 h2
      obtain⟨s0,s1,s2⟩:=hsz _ (List.getElem_mem hlk)
      have e0:=g0 k hlk
      have e1:=g1 k hlk
      have e2:=g2 k hlk
      have hset:Hid (∀w',Half w' w.heap.size es.length k es->Half (((w'.setCell ⟨w.heap.size,k*3,none⟩ (.string es[k].1)).setCell ⟨w.heap.size,k*3+1,none⟩ (.string es[k].2.1)).setCell ⟨w.heap.size,k*3+2,none⟩ (.string es[k].2.2)) w.heap.size es.length (k+1) es):=λw' h=>h.set hlk rfl
      have hH0:Hid (Half wr w.heap.size es.length k es):=hH
      have Hb:Hid (Below w.heap.size w wr):=hb
      have hgne:w.heap.size≠wr.heap.size:=Nat.ne_of_lt hH.1
      clear h0 h1 h2 hsz g0 g1 g2 hH hb
      generalize es[k].1=p at s0 e0 hset
      generalize es[k].2.1=o at s1 e1 hset
      generalize es[k].2.2=n at s2 e2 hset
      go_wp2
      go_region_held_law (λw'=>w'.cell? ⟨wr.heap.size,0,none⟩=some (.string p)/\w'.cell? ⟨wr.heap.size,1,none⟩=some (.string o)/\w'.cell? ⟨wr.heap.size,2,none⟩=some (.string n)) (go_keep) (first
        |(go_at_call 129;refine(clone_any p _ s0).mono ?_;rintro e w2 ⟨rfl,hb2⟩;have k0:w2.cell? ⟨wr.heap.size,0,none⟩=some (.string p):=cell_after hb2 (by simp);have k1:w2.cell? ⟨wr.heap.size,1,none⟩=some (.string o):=cell_after hb2 (by simp);have k2:w2.cell? ⟨wr.heap.size,2,none⟩=some (.string n):=cell_after hb2 (by simp);have B2:Hid (Below wr.heap.size wr w2):=below_draw hb2 rfl rfl rfl rfl;have H2:Hid (Half w2 w.heap.size es.length k es):=hH0.out.later B2.out)
        |(go_at_call 129;refine(clone_any o _ s1).mono ?_;rintro e w3 ⟨rfl,hb3⟩;have k3:=cell_after hb3 k0;have k4:=cell_after hb3 k1;have k5:=cell_after hb3 k2)
        |(go_at_call 129;refine(clone_any n _ s2).mono ?_;rintro e w4 ⟨rfl,hb4⟩;have k6:=cell_after hb4 k3;have k7:=cell_after hb4 k4;have k8:=cell_after hb4 k5;have hH4:Half w4 w.heap.size es.length k es:=Half.later (Half.later H2.out hb3) hb4;have B4:Hid (Below wr.heap.size wr w4):=(B2.out.trans (hb3.mono B2.out.size)).trans (hb4.mono (Nat.le_trans B2.out.size hb3.size));have z0:=(hH4.2.1 (k*3) (by omega)).2;have z1:=(hH4.2.1 (k*3+1) (by omega)).2;have z2:=(hH4.2.1 (k*3+2) (by omega)).2;obtain⟨u0,y0⟩:=(hH4.2.1 (k*3) (by omega)).1;obtain⟨u1,y1⟩:=(hH4.2.1 (k*3+1) (by omega)).1;obtain⟨u2,y2⟩:=(hH4.2.1 (k*3+2) (by omega)).1))
      have hN:=hset.out _ (by assumption)
      have hB4:Below w.heap.size w w4:=Hb.out.trans (B4.out.mono Hb.out.size)
      have h2:w.heap.size<=w.heap.size:=Nat.le_refl _
      have T4:Hid (Typed w4 w.heap.size 49):=hT.out.later B4.out
      go_wp2
      go_roundw
      case rel=>exact⟨k+1,hlk,by go_num,hN,((hB4.setCell h2 _).setCell h2 _).setCell h2 _,((T4.out.set _ _).set _ _).set _ _⟩
      case measure=>simp[intOf];omega
    · go_wp2
      go_ret
      have hkl:k=es.length:=by omega
      subst hkl
      exact⟨rfl,Sl.of_half hH hT.out hn,hb⟩
theorem outDrop (yb i n:Nat)(t:TypeId)(v:Value)(cs:Array Value)(x0 x1 x2:Int)(xs:List Value)(w:World)(hB:Bx w yb t cs)(hv:cs[i]? =some v)(hS:Sl w 99 3 v (n+1) (.int .i64 x0::.int .i64 x1::.int .i64 x2::xs))(hne:v.ownBlock≠some yb):
    Calls prog 121 #[.pointer (some ⟨yb,i,none⟩)] w λe w'=>e=.returned (.tuple #[])/\∃v',Bx w' yb t (cs.setIfInBounds i v')/\Sl w' 99 3 v' n xs/\v'.ownBlock=v.ownBlock/\Only w w' (λk=>k=yb\/v.ownBlock=some k):=by
  obtain⟨g,off,cap,rfl,hnc,hcm⟩:=hS.addr (by omega)
  have c0:=hB.cell hv
  have f0:=hB.fr i
  have d1:w.cell? ⟨g,off+1,none⟩=some (.int .i64 x1):=hS.cell (j:=1) rfl
  have d2:w.cell? ⟨g,off+2,none⟩=some (.int .i64 x2):=hS.cell (j:=2) rfl
  have z1:=hS.fr (off+1)
  have z2:=hS.fr (off+2)
  have hl:=hB.lt
  have hg:g<w.heap.size:=hS.lt rfl
  have hn0:((n:Int)+1==0)=false:=by simp;omega
  have hgy:g≠yb:=λe=>hne (by rw[e];rfl)
  have hyg:yb≠g:=hgy.symm
  have hgw:g≠w.heap.size:=by omega
  have hyw:yb≠w.heap.size:=by omega
  have HB:Hid (Bx w yb t cs):=hB
  have HS:Hid (Sl w 99 3 (.slice (some ⟨g,off,none⟩) (n+1) cap) (n+1) (.int .i64 x0::.int .i64 x1::.int .i64 x2::xs)):=hS
  clear hB hS
  go_enter func121,ntmps121
  go_upto_region 2 with fail
  have e0:∀o,(w.alloc o).cell? ⟨yb,i,none⟩=some (.slice (some ⟨g,off,none⟩) (n+1) cap):=λo=>(HB.out.mk o).cell hv
  have a0:∀o,(w.alloc o).cell? ⟨g,off,none⟩=some (.int .i64 x0):=λo=>(HS.out.mk o).cell (j:=0) rfl
  have b0:∀o j,(w.alloc o).frozen? ⟨g,j,none⟩=false:=λo j=>(HS.out.mk o).fr j
  have hfin:Hid (∀o' c',c'=cap-1->o'=(if cap-1=0 then off else off+3)->∀W,W=(((((w.setCell ⟨g,off,none⟩ (.int .i64 0)).setCell ⟨g,off+1,none⟩ (.int .i64 0)).setCell ⟨g,off+2,none⟩ (.int .i64 0)).setCell ⟨yb,i,none⟩ (.slice (some ⟨g,o',none⟩) n c')).alloc (.cells #[.int .i64 0,.int .i64 0,.int .i64 0] 99)).drew->∃v',Bx W yb t (cs.setIfInBounds i v')/\Sl W 99 3 v' n xs/\v'.ownBlock=some g/\Only w W (λk=>k=yb\/some g=some k)):=λo' c' hc ho W hW=>by
    subst hc ho hW
    have hW:=drop_world (i:=i) HB.out (drop_sl HS.out (.int .i64 0) (.int .i64 0) (.int .i64 0)) (grown3 _ _ _ _ _ _ _ _) hgy rfl (.cells #[.int .i64 0,.int .i64 0,.int .i64 0] 99)
    exact⟨_,hW.1,hW.2.1,rfl,hW.2.2⟩
  by_cases hc1:cap=1
  · subst hc1
    obtain rfl:n=0:=by omega
    go_region_law (fail)
    all_goals go_wp2_with fail
    all_goals
      refine bodyPost_end (v:=.tuple #[]) (results_none (by kernel_rfl) _ _ _) rfl ⟨rfl,?_⟩
      exact hfin.out off 0 rfl rfl _ rfl
  · have hs3:Hid ((some ⟨g,off+3,none⟩:Option Addr)=some ⟨g,if cap-1=0 then off else off+3,none⟩):=by
      have hc2:¬cap-1=0:=by omega
      show _=_
      rw[if_neg hc2]
    go_region_law (fail)
    all_goals go_wp2_with fail
    all_goals
      refine bodyPost_end (v:=.tuple #[]) (results_none (by kernel_rfl) _ _ _) rfl ⟨rfl,?_⟩
      refine hfin.out (off+3) (cap-1) rfl (by have:=hs3.out;injection this with this;injection this) _ ?_
      rfl
abbrev Cg:=Nat×List Ed
structure Jb where
  num:Nat
  til:Nat
  files:ByteArray->ByteArray
structure Sm where
  l:List Cg
  fails:Nat
  by_:Nat
  job:Option Jb
def Sm.new (l:List Cg):Sm:=⟨l,0,0,none⟩
def Sm.renew (x:Sm):Sm:=Sm.new x.l
structure Ts where
  ids:List Nat
  queue:List Ch
  outs:List (Nat×Nat)
  acked:Nat
  tip:ByteArray->ByteArray
  main:List (Nat×List Nat)
  segs:List Sm
  begun:Nat
  now:Nat
def Ts.start (g:ByteArray->ByteArray):Ts:=⟨[],[],[],0,g,[],[],0,0⟩
def appOn (g:ByteArray->ByteArray)(es:List Ed):Bool:=es.all λe=>(g e.1).toList==e.2.1.toList
theorem appOn_iff (g:ByteArray->ByteArray)(es:List Ed):appOn g es=true↔∀e∈es,g e.1=e.2.1:=by
  unfold appOn
  rw[List.all_eq_true]
  exact forall_congr' λe=>imp_congr_right λ_=>beq_true_iff _ _
def makes (g:ByteArray->ByteArray):List Cg->(ByteArray->ByteArray)×Nat
  |[]=>(g,0)
  |x::l=>if appOn g x.2 then ((makes (edited g x.2) l).1,(makes (edited g x.2) l).2+1) else (g,0)
theorem makes_le:∀(l:List Cg) (g:ByteArray->ByteArray),(makes g l).2<=l.length
  |[],g=>Nat.le_refl _
  |x::l,g=>by
    unfold makes
    split
    · have:=makes_le l (edited g x.2)
      simpa using this
    · simp
def after (g:ByteArray->ByteArray)(l:List Cg):ByteArray->ByteArray:=l.foldl (λg x=>edited g x.2) g
theorem after_snoc (g:ByteArray->ByteArray)(l:List Cg)(x:Cg):after g (l++[x])=edited (after g l) x.2:=by simp[after]
theorem makes_snoc_no:∀(l:List Cg) (g:ByteArray->ByteArray) (x:Cg) (m:List Cg),(makes g l).2=l.length->appOn (after g l) x.2=false->(makes g (l++x::m)).2=l.length
  |[],g,x,m,_,h=>by
    have h':appOn g x.2=false:=h
    simp[makes,h']
  |y::l,g,x,m,h,hx=>by
    unfold makes at h ⊢
    rw[List.cons_append]
    by_cases hy:appOn g y.2=true
    · simp only[hy,if_true,List.length_cons,Nat.add_right_cancel_iff] at h ⊢
      exact makes_snoc_no l (edited g y.2) x m h hx
    · simp[hy] at h
theorem makes_snoc_yes:∀(l:List Cg) (g:ByteArray->ByteArray) (x:Cg),(makes g l).2=l.length->appOn (after g l) x.2=true->(makes g (l++[x])).2=l.length+1
  |[],g,x,_,h=>by
    have h':appOn g x.2=true:=h
    simp[makes,h']
  |y::l,g,x,h,hx=>by
    unfold makes at h ⊢
    rw[List.cons_append]
    by_cases hy:appOn g y.2=true
    · simp only[hy,if_true,List.length_cons,Nat.add_right_cancel_iff] at h ⊢
      exact makes_snoc_yes l (edited g y.2) x h hx
    · simp[hy] at h
theorem makes_all:∀(l:List Cg) (g:ByteArray->ByteArray),(makes g l).2=l.length->(makes g l).1=after g l
  |[],g,_=>rfl
  |y::l,g,h=>by
    unfold makes at h ⊢
    by_cases hy:appOn g y.2=true
    · simp only[hy,if_true,List.length_cons,Nat.add_right_cancel_iff] at h ⊢
      exact makes_all l (edited g y.2) h
    · simp[hy] at h
def laneC (age:Nat)(x:Ch):Nat:=x.lane-x.passed/age
def Ts.ranked (c:Cfg)(s:Ts):List Ch:=rkG (laneC c.age) s.queue 4
def Ch.up (x:Ch):Ch:={x with passed:=x.passed+1}
def Ch.cg (x:Ch):Cg:=(x.id,x.edits)
def Ts.pick (c:Cfg)(s:Ts):Ts:=
  {s with segs:=[Sm.new (((s.ranked c).take c.batch).map Ch.cg),],queue:=(s.queue.filter λx=> !((s.ranked c).take c.batch).any λy=>y.id==x.id).map Ch.up}
def newIf (l:List Cg):List Sm:=if l.isEmpty then [] else [Sm.new l]
def Ts.conflict (s:Ts)(f:Sm)(m:List Sm):Ts:={s with outs:=s.outs++(f.l.take 1).map λx=>(x.1,3),segs:=newIf (f.l.drop 1)++m}
def Ts.split (s:Ts)(f:Sm)(k:Nat)(m:List Sm):Ts:={s with segs:=Sm.new (f.l.take k)::Sm.new (f.l.drop k)::m}
def Ts.land (s:Ts)(f:Sm)(m:List Sm):Ts:=
  {s with tip:=(makes s.tip f.l).1,outs:=s.outs++f.l.map λx=>(x.1,1),main:=s.main++[(f.by_,f.l.map Prod.fst)],segs:=m}
def Ts.blame (s:Ts)(f:Sm)(m:List Sm):Ts:=
  if 1<f.l.length then s.split f ((f.l.length+1)/2) (m.map Sm.renew)
  else {s with outs:=s.outs++(f.l.take 1).map λx=>(x.1,2),segs:=m.map Sm.renew}
def Ts.step (c:Cfg)(s:Ts):Option Ts:=
  match s.segs with
  |[]=>if s.queue.isEmpty then none else some (s.pick c)
  |f::m=>
    if (makes s.tip f.l).2=0 then some (s.conflict f m)
    else if (makes s.tip f.l).2<f.l.length then some (s.split f (makes s.tip f.l).2 m)
    else if f.by_≠0 then some (s.land f m)
    else if c.retries<f.fails then some (s.blame f m)
    else none
def Ts.run (c:Cfg):Nat->Ts->Ts
  |0,s=>s
  |n+1,s=>match s.step c with
    |none=>s
    |some s'=>s'.run c n
def begins (c:Cfg)(now:Nat):Nat->List Sm->(ByteArray->ByteArray)->Nat->List Sm×Nat
  |0,l,_,b=>(l,b)
  |_+1,[],_,b=>([],b)
  |r+1,x::l,g,b=>
    if (makes g x.l).2<x.l.length\/c.retries<x.fails then (x::l,b)
    else if x.by_=0/\x.job.isNone=true then
      ({x with job:=some ⟨b+1,now+c.deadline,(makes g x.l).1⟩}::(begins c now r l (makes g x.l).1 (b+1)).1,(begins c now r l (makes g x.l).1 (b+1)).2)
    else (x::(begins c now r l (makes g x.l).1 b).1,(begins c now r l (makes g x.l).1 b).2)
def Ts.begin (c:Cfg)(s:Ts):Ts:={s with segs:=(begins c s.now c.window s.segs s.tip s.begun).1,begun:=(begins c s.now c.window s.segs s.tip s.begun).2}
def trainLen (l:List Sm):Nat:=(l.map λx=>x.l.length).sum
def Ts.mu (s:Ts):Nat:=3*s.queue.length+(s.segs.map λx=>2*x.l.length-1).sum
def Ts.pump (c:Cfg)(s:Ts):Ts:=(s.run c s.mu).begin c
def Sm.ends (x:Sm)(pass:Bool)(num:Nat):Sm:=if pass then {x with by_:=num,job:=none} else {x with fails:=x.fails+1,job:=none}
def Sm.runs (x:Sm)(num:Nat):Bool:=match x.job with|some j=>j.num==num|none=>false
def Ts.answer (s:Ts)(num:Nat)(pass:Bool):Ts:={s with segs:=s.segs.map λx=>if x.runs num then x.ends pass num else x}
def Sm.due (x:Sm)(now:Nat):Bool:=match x.job with|some j=>decide (j.til<=now)|none=>false
def Ts.tick (s:Ts)(n:Nat):Ts:={s with now:=s.now+n,segs:=s.segs.map λx=>if x.due (s.now+n) then x.ends false 0 else x}
def Ts.lose (s:Ts):Ts:={s with segs:=s.segs.map λx=>{x with job:=none}}
def Ts.does (c:Cfg)(s:Ts)(r:Rc):Ts:=
  if r.kind=1 then {s with ids:=s.ids++[r.num],queue:=s.queue++[⟨r.num,r.lane,0,s.ids.length,r.edits⟩]}
  else if r.kind=2 then {s with queue:=s.queue.filter λx=>x.id !=r.num,outs:=s.outs++[(r.num,4)]}
  else if r.kind=3 then s.pump c
  else if r.kind=4 then s.answer r.num r.pass
  else if r.kind=5 then s.tick r.num
  else if r.kind=6 then {s with acked:=s.acked+1}
  else s.lose
def Ts.all (c:Cfg)(g:ByteArray->ByteArray)(rs:List Rc):Ts:=rs.foldl (Ts.does c) (Ts.start g)
theorem Ts.all_snoc (c:Cfg)(g:ByteArray->ByteArray)(rs:List Rc)(r:Rc):Ts.all c g (rs++[r])=(Ts.all c g rs).does c r:=by simp[Ts.all]
structure Ts.Can (c:Cfg)(s:Ts)(r:Rc):Prop where
  kind:1<=r.kind/\r.kind<=7
  num:r.num<=9223372036854775807
  sub:r.kind=1->r.num<=1000000/\r.num∉s.ids/\s.queue.length<c.queue/\r.lane<c.lanes/\EditsOK r.edits
  cancel:r.kind=2->∃x∈s.queue,x.id=r.num
  ans:r.kind=4->∃x∈s.segs,x.runs r.num=true
  tick:r.kind=5->1<=r.num/\r.num<=1000
  ack:r.kind=6->s.acked<s.outs.length
structure SmOk (c:Cfg)(begun now:Nat)(x:Sm):Prop where
  ne:x.l≠[]
  eds:∀y∈x.l,y.1<=1000000/\EditsOK y.2
  fails:x.fails<=c.retries+1
  by_:x.by_<=begun
  job:∀j,x.job=some j->x.fails<=c.retries/\x.by_=0/\1<=j.num/\j.num<=begun/\j.til<=now+c.deadline
def JobsNe (x y:Sm):Prop:=∀j k,x.job=some j->y.job=some k->j.num≠k.num
structure Ts.Inv (c:Cfg)(s:Ts):Prop where
  len:s.queue.length<=c.queue
  ord:s.queue.Pairwise λx y=>x.ord<y.ord
  top:∀x∈s.queue,x.ord<s.ids.length/\x.lane<c.lanes/\x.passed+s.queue.length<=s.ids.length/\x.id<=1000000/\EditsOK x.edits
  nd:(s.queue.map Ch.id).Nodup
  inn:∀x∈s.queue,x.id∈s.ids
  ack:s.acked<=s.outs.length
  cnt:s.outs.length+s.queue.length+trainLen s.segs=s.ids.length
  main:s.main.length<=s.outs.length
  tr:trainLen s.segs<=8
  sm:∀x∈s.segs,SmOk c s.begun s.now x
  jobs:s.segs.Pairwise JobsNe
theorem Ts.Inv.start (c:Cfg)(g:ByteArray->ByteArray):Ts.Inv c (Ts.start g):=
  ⟨by simp[Ts.start],by simp[Ts.start],by simp[Ts.start],by simp[Ts.start],by simp[Ts.start],by simp[Ts.start],by simp[Ts.start,trainLen],by simp[Ts.start],by simp[Ts.start,trainLen],by simp[Ts.start],by simp[Ts.start]⟩
theorem Ts.Inv.ranked {c:Cfg}{s:Ts}(h:s.Inv c)(hc:c.Ok):(s.ranked c).Perm s.queue:=rkG_perm λx hx=>by
  have h1:=(h.top x hx).2.1
  have h2:=hc.1.2
  unfold laneC
  have:x.lane-x.passed/c.age<=x.lane:=Nat.sub_le _ _
  omega
theorem left_drop {l:List Ch}(h:(l.map Ch.id).Nodup)(k:Nat):(l.filter λx=> !(l.take k).any λy=>y.id==x.id)=l.drop k:=by
  have e:∀p:Ch->Bool,l.filter p=(l.take k).filter p++(l.drop k).filter p:=λp=>by rw[<-List.filter_append,List.take_append_drop]
  rw[e]
  have h1:((l.take k).filter λx=> !(l.take k).any λy=>y.id==x.id)=[]:=by
    rw[List.filter_eq_nil_iff]
    intro x hx
    simp only[Bool.not_eq_true',Bool.not_eq_false,List.any_eq_true]
    exact⟨x,hx,by simp⟩
  have h2:((l.drop k).filter λx=> !(l.take k).any λy=>y.id==x.id)=l.drop k:=by
    rw[List.filter_eq_self]
    intro x hx
    rw[Bool.not_eq_true',List.any_eq_false]
    intro y hy
    have h':((l.take k).map Ch.id++(l.drop k).map Ch.id).Nodup:=by rw[<-List.map_append,List.take_append_drop];exact h
    have:=(List.nodup_append.1 h').2.2 y.id (List.mem_map_of_mem hy) x.id (List.mem_map_of_mem hx)
    simpa using this
  rw[h1,h2,List.nil_append]
theorem Ts.Inv.left {c:Cfg}{s:Ts}(h:s.Inv c)(hc:c.Ok)(k:Nat):(s.queue.filter λx=> !((s.ranked c).take k).any λy=>y.id==x.id).Perm ((s.ranked c).drop k):=by
  have hp:=h.ranked hc
  have hn:((s.ranked c).map Ch.id).Nodup:=(hp.map Ch.id).nodup_iff.2 h.nd
  have:=left_drop hn k
  exact(hp.symm.filter _).trans (this▸List.Perm.refl _)
theorem trainLen_cons (x:Sm)(l:List Sm):trainLen (x::l)=x.l.length+trainLen l:=by simp[trainLen]
theorem trainLen_append (a b:List Sm):trainLen (a++b)=trainLen a+trainLen b:=by simp[trainLen]
theorem trainLen_renew (l:List Sm):trainLen (l.map Sm.renew)=trainLen l:=by simp[trainLen,Sm.renew,Sm.new,Function.comp_def]
def muS (l:List Sm):Nat:=(l.map λx=>2*x.l.length-1).sum
theorem muS_cons (x:Sm)(l:List Sm):muS (x::l)=(2*x.l.length-1)+muS l:=by simp[muS]
theorem muS_append (a b:List Sm):muS (a++b)=muS a+muS b:=by simp[muS]
theorem muS_renew (l:List Sm):muS (l.map Sm.renew)=muS l:=by simp[muS,Sm.renew,Sm.new,Function.comp_def]
theorem Ts.mu_eq (s:Ts):s.mu=3*s.queue.length+muS s.segs:=rfl
theorem SmOk.new {c:Cfg}{b n:Nat}{l:List Cg}(h:l≠[])(he:∀y∈l,y.1<=1000000/\EditsOK y.2):SmOk c b n (Sm.new l):=⟨h,he,Nat.zero_le _,Nat.zero_le _,λj hj=>by cases hj⟩
theorem SmOk.renew {c:Cfg}{b n:Nat}{x:Sm}(h:SmOk c b n x):SmOk c b n x.renew:=SmOk.new h.ne h.eds
theorem JobsNe.new_left {l:List Cg}{y:Sm}:JobsNe (Sm.new l) y:=λj k hj _=>by cases hj
theorem renew_jobs (m:List Sm):(m.map Sm.renew).Pairwise JobsNe:=by
  rw[List.pairwise_map]
  exact List.Pairwise.imp (fun {a b} (_:True)=>JobsNe.new_left) (List.pairwise_of_forall λ_ _=>trivial)
theorem mem_newIf {l:List Cg}{x:Sm}(h:x∈newIf l):x=Sm.new l/\l≠[]:=by
  unfold newIf at h
  split at h
  · simp at h
  · rename_i hn
    exact⟨by simpa using h,λe=>hn (by simp[e])⟩
theorem newIf_len (l:List Cg):trainLen (newIf l)=l.length:=by
  unfold newIf
  split
  · rename_i h
    rw[List.isEmpty_iff.1 h];rfl
  · simp[trainLen,Sm.new]
theorem newIf_mu (l:List Cg):muS (newIf l)=2*l.length-1:=by
  unfold newIf
  split
  · rename_i h
    rw[List.isEmpty_iff.1 h];rfl
  · simp[muS,Sm.new]
theorem newIf_jobs {l:List Cg}{m:List Sm}(h:m.Pairwise JobsNe):(newIf l++m).Pairwise JobsNe:=by
  unfold newIf
  split
  · simpa using h
  · rw[List.singleton_append,List.pairwise_cons]
    exact⟨λ_ _=>JobsNe.new_left,h⟩
theorem Ts.Inv.pick {c:Cfg}{s:Ts}(h:s.Inv c)(hc:c.Ok)(he:s.segs=[])(hq:s.queue≠[]):(s.pick c).Inv c/\(s.pick c).mu<s.mu:=by
  have hp:=h.ranked hc
  have hl:=h.left hc c.batch
  have hlen:=hl.length_eq
  rw[List.length_drop,hp.length_eq] at hlen
  have hb:=hc.2.2.1
  have hpos:0<s.queue.length:=List.length_pos_iff.2 hq
  have hk:(((s.ranked c).take c.batch).map Ch.cg).length=min c.batch s.queue.length:=by rw[List.length_map,List.length_take,hp.length_eq]
  have hcnt:=h.cnt
  rw[he] at hcnt
  have ht0:trainLen ([]:List Sm)=0:=rfl
  have hql:(s.pick c).queue.length=s.queue.length-c.batch:=by
    show ((s.queue.filter _).map Ch.up).length=_
    rw[List.length_map,hlen]
  refine⟨⟨?_,?_,λx hx=>?_,?_,λx hx=>?_,h.ack,?_,h.main,?_,λx hx=>?_,?_⟩,?_⟩
  · rw[hql];have:=h.len;omega
  · show ((s.queue.filter _).map Ch.up).Pairwise _
    rw[List.pairwise_map]
    exact(h.ord.filter _).imp λh=>h
  · rw[hql]
    obtain⟨y,hy,rfl⟩:=List.mem_map.1 hx
    obtain⟨h1,h2,h3,h4,h5⟩:=h.top y (List.mem_filter.1 hy).1
    refine⟨h1,h2,?_,h4,h5⟩
    show y.passed+1+_<=s.ids.length
    omega
  · show (((s.queue.filter _).map Ch.up).map Ch.id).Nodup
    rw[List.map_map]
    exact List.Sublist.nodup (List.Sublist.map Ch.id (List.filter_sublist ..)) h.nd
  · obtain⟨y,hy,rfl⟩:=List.mem_map.1 hx
    exact h.inn y (List.mem_filter.1 hy).1
  · rw[hql]
    show s.outs.length+_+trainLen [Sm.new _]=s.ids.length
    rw[trainLen_cons]
    show _+(((s.ranked c).take c.batch).map Ch.cg).length+trainLen []=_
    rw[hk,ht0]
    rw[ht0] at hcnt
    omega
  · show trainLen [Sm.new _]<=8
    rw[trainLen_cons]
    show (((s.ranked c).take c.batch).map Ch.cg).length+trainLen []<=_
    rw[hk,ht0]
    omega
  · obtain rfl:=List.mem_singleton.1 hx
    refine SmOk.new (λe=>?_) λy hy=>?_
    · rw[e] at hk
      simp only[List.length_nil] at hk
      omega
    · obtain⟨z,hz,rfl⟩:=List.mem_map.1 hy
      have:=h.top z (hp.mem_iff.1 (List.mem_of_mem_take hz))
      exact⟨this.2.2.2.1,this.2.2.2.2⟩
  · show [Sm.new _].Pairwise JobsNe
    simp
  · rw[Ts.mu_eq,Ts.mu_eq,hql,he]
    show _+muS [Sm.new _]<_
    rw[muS_cons]
    show _+((2*(((s.ranked c).take c.batch).map Ch.cg).length-1)+muS [])<_
    rw[hk]
    have:muS ([]:List Sm)=0:=rfl
    omega
theorem Ts.Inv.conflict {c:Cfg}{s:Ts}{f:Sm}{m:List Sm}(h:s.Inv c)(e:s.segs=f::m):(s.conflict f m).Inv c/\(s.conflict f m).mu<s.mu:=by
  have hf:=h.sm f (by rw[e];simp)
  obtain⟨y,l,el⟩:=List.exists_cons_of_ne_nil hf.ne
  have hcnt:=h.cnt
  have htr:=h.tr
  have hj:=h.jobs
  rw[e,trainLen_cons,el] at hcnt htr
  rw[e,List.pairwise_cons] at hj
  have hs:(s.conflict f m).segs=newIf l++m:=by show newIf (f.l.drop 1)++m=_;rw[el];rfl
  have ho:(s.conflict f m).outs=s.outs++[(y.1,3)]:=by show s.outs++(f.l.take 1).map _=_;rw[el];rfl
  simp only[List.length_cons] at hcnt htr
  refine⟨⟨h.len,h.ord,h.top,h.nd,h.inn,?_,?_,?_,?_,λx hx=>?_,?_⟩,?_⟩
  · rw[ho,List.length_append];exact Nat.le_trans h.ack (Nat.le_add_right _ _)
  · rw[ho,hs,List.length_append,trainLen_append,newIf_len]
    show _+s.queue.length+_=s.ids.length
    simp only[List.length_cons,List.length_nil]
    omega
  · rw[ho,List.length_append];exact Nat.le_trans h.main (Nat.le_add_right _ _)
  · rw[hs,trainLen_append,newIf_len];omega
  · rw[hs] at hx
    rcases List.mem_append.1 hx with hx|hx
    · obtain⟨rfl,hn⟩:=mem_newIf hx
      exact SmOk.new hn λz hz=>hf.eds z (by rw[el];simp[hz])
    · exact h.sm x (by rw[e];simp[hx])
  · rw[hs];exact newIf_jobs hj.2
  · rw[Ts.mu_eq,Ts.mu_eq,hs,e,muS_append,newIf_mu,muS_cons,el]
    show 3*s.queue.length+_<_
    simp only[List.length_cons]
    omega
theorem Ts.Inv.split {c:Cfg}{s:Ts}{f:Sm}{m m':List Sm}{k:Nat}(h:s.Inv c)(e:s.segs=f::m)(h0:0<k)(hk:k<f.l.length)(ht:trainLen m'=trainLen m)(hm:muS m'=muS m)(hj':m'.Pairwise JobsNe)(hs':∀x∈m',SmOk c s.begun s.now x):
    (s.split f k m').Inv c/\(s.split f k m').mu<s.mu:=by
  have hf:=h.sm f (by rw[e];simp)
  have hcnt:=h.cnt
  have htr:=h.tr
  rw[e,trainLen_cons] at hcnt htr
  have hs:(s.split f k m').segs=Sm.new (f.l.take k)::Sm.new (f.l.drop k)::m':=rfl
  have l1:(Sm.new (f.l.take k)).l.length=k:=by show (f.l.take k).length=k;rw[List.length_take];omega
  have l2:(Sm.new (f.l.drop k)).l.length=f.l.length-k:=by show (f.l.drop k).length=_;rw[List.length_drop]
  refine⟨⟨h.len,h.ord,h.top,h.nd,h.inn,h.ack,?_,h.main,?_,λx hx=>?_,?_⟩,?_⟩
  · show s.outs.length+s.queue.length+_=s.ids.length
    rw[hs,trainLen_cons,trainLen_cons,l1,l2];omega
  · rw[hs,trainLen_cons,trainLen_cons,l1,l2];omega
  · rw[hs] at hx
    rcases List.mem_cons.1 hx with rfl|hx
    · refine SmOk.new (λe2=>?_) λz hz=>hf.eds z (List.mem_of_mem_take hz)
      have:(f.l.take k).length=0:=by rw[e2];rfl
      rw[List.length_take] at this;omega
    rcases List.mem_cons.1 hx with rfl|hx
    · refine SmOk.new (λe2=>?_) λz hz=>hf.eds z (List.mem_of_mem_drop hz)
      have:(f.l.drop k).length=0:=by rw[e2];rfl
      rw[List.length_drop] at this;omega
    · exact hs' x hx
  · rw[hs,List.pairwise_cons,List.pairwise_cons]
    exact⟨λ_ _=>JobsNe.new_left,λ_ _=>JobsNe.new_left,hj'⟩
  · rw[Ts.mu_eq,Ts.mu_eq,hs,e,muS_cons,muS_cons,muS_cons,l1,l2]
    show 3*s.queue.length+_<_
    omega
theorem Ts.Inv.land {c:Cfg}{s:Ts}{f:Sm}{m:List Sm}(h:s.Inv c)(e:s.segs=f::m):(s.land f m).Inv c/\(s.land f m).mu<s.mu:=by
  have hf:=h.sm f (by rw[e];simp)
  have hpos:0<f.l.length:=List.length_pos_iff.2 hf.ne
  have hcnt:=h.cnt
  have htr:=h.tr
  have hj:=h.jobs
  rw[e,trainLen_cons] at hcnt htr
  rw[e,List.pairwise_cons] at hj
  have hs:(s.land f m).segs=m:=rfl
  have ho:(s.land f m).outs.length=s.outs.length+f.l.length:=by show (s.outs++f.l.map _).length=_;simp
  have hma:(s.land f m).main.length=s.main.length+1:=by show (s.main++[_]).length=_;simp
  refine⟨⟨h.len,h.ord,h.top,h.nd,h.inn,?_,?_,?_,?_,λx hx=>h.sm x (by rw[e];simp[show x∈m from hx]),hj.2⟩,?_⟩
  · rw[ho];exact Nat.le_trans h.ack (Nat.le_add_right _ _)
  · rw[ho,hs]
    show _+s.queue.length+_=s.ids.length
    omega
  · rw[ho,hma];have:=h.main;omega
  · rw[hs];omega
  · rw[Ts.mu_eq,Ts.mu_eq,hs,e,muS_cons]
    show 3*s.queue.length+_<_
    omega
theorem Ts.Inv.blame {c:Cfg}{s:Ts}{f:Sm}{m:List Sm}(h:s.Inv c)(e:s.segs=f::m):(s.blame f m).Inv c/\(s.blame f m).mu<s.mu:=by
  have hf:=h.sm f (by rw[e];simp)
  have hpos:0<f.l.length:=List.length_pos_iff.2 hf.ne
  have hr:∀x∈m.map Sm.renew,SmOk c s.begun s.now x:=λx hx=>by
    obtain⟨y,hy,rfl⟩:=List.mem_map.1 hx
    exact(h.sm y (by rw[e];simp[hy])).renew
  unfold Ts.blame
  split
  · rename_i h1
    exact h.split e (by omega) (by omega) (trainLen_renew m) (muS_renew m) (renew_jobs m) hr
  · rename_i h1
    have h1':f.l.length=1:=by omega
    have hcnt:=h.cnt
    have htr:=h.tr
    rw[e,trainLen_cons,h1'] at hcnt htr
    have hlen:(s.outs++(f.l.take 1).map λx:Cg=>(x.1,2)).length=s.outs.length+1:=by simp[h1']
    refine⟨⟨h.len,h.ord,h.top,h.nd,h.inn,?_,?_,?_,?_,hr,renew_jobs m⟩,?_⟩
    · show _<=(s.outs++_).length
      rw[hlen];exact Nat.le_trans h.ack (Nat.le_add_right _ _)
    · show (s.outs++_).length+s.queue.length+trainLen (m.map Sm.renew)=s.ids.length
      rw[hlen,trainLen_renew];omega
    · show _<=(s.outs++_).length
      rw[hlen];exact Nat.le_trans h.main (Nat.le_add_right _ _)
    · show trainLen (m.map Sm.renew)<=8
      rw[trainLen_renew];omega
    · rw[Ts.mu_eq,Ts.mu_eq,e,muS_cons]
      show 3*s.queue.length+muS (m.map Sm.renew)<_
      rw[muS_renew];omega
theorem Ts.Inv.goes {c:Cfg}{s s':Ts}(h:s.Inv c)(hc:c.Ok)(hs:s.step c=some s'):s'.Inv c/\s'.mu<s.mu:=by
  unfold Ts.step at hs
  split at hs
  · rename_i e
    split at hs
    · cases hs
    · rename_i hq
      cases hs
      exact h.pick hc e (λe2=>hq (by simp[e2]))
  · rename_i f m e
    split at hs
    · cases hs;exact h.conflict e
    split at hs
    · rename_i h0 h1
      cases hs
      refine h.split e (Nat.pos_of_ne_zero h0) h1 rfl rfl ?_ λx hx=>h.sm x (by rw[e];simp[hx])
      have:=h.jobs
      rw[e,List.pairwise_cons] at this
      exact this.2
    split at hs
    · cases hs;exact h.land e
    split at hs
    · cases hs;exact h.blame e
    · cases hs
theorem Ts.run_more {c:Cfg}(hc:c.Ok):∀(n:Nat) (s:Ts),s.Inv c->s.mu<=n->s.run c n=s.run c s.mu
  |0,s,_,hn=>by rw[show s.mu=0 by omega]
  |n+1,s,h,hn=>by
    cases hs:s.step c with
    |none=>
      have e1:s.run c (n+1)=s:=by unfold Ts.run;rw[hs]
      rw[e1]
      cases hm:s.mu with
      |zero=>rfl
      |succ k=>unfold Ts.run;rw[hs]
    |some s'=>
      obtain⟨h',hlt⟩:=h.goes hc hs
      have e1:s.run c (n+1)=s'.run c n:=by rw[Ts.run,hs]
      rw[e1,Ts.run_more hc n s' h' (by omega)]
      cases hm:s.mu with
      |zero=>omega
      |succ k=>
        have e2:s.run c (k+1)=s'.run c k:=by rw[Ts.run,hs]
        rw[e2,Ts.run_more hc k s' h' (by omega)]
theorem Ts.Inv.run_step {c:Cfg}{s s':Ts}(h:s.Inv c)(hc:c.Ok)(hs:s.step c=some s'):s.run c s.mu=s'.run c s'.mu:=by
  obtain⟨h',hlt⟩:=h.goes hc hs
  cases hm:s.mu with
  |zero=>omega
  |succ k=>
    have e2:s.run c (k+1)=s'.run c k:=by rw[Ts.run,hs]
    rw[e2,Ts.run_more hc k s' h' (by omega)]
theorem Ts.run_none {c:Cfg}{s:Ts}(hs:s.step c=none)(n:Nat):s.run c n=s:=by
  cases n with
  |zero=>rfl
  |succ k=>rw[Ts.run,hs]
theorem Ts.Inv.run {c:Cfg}(hc:c.Ok):∀(n:Nat) {s:Ts},s.Inv c->(s.run c n).Inv c
  |0,s,h=>h
  |n+1,s,h=>by
    cases hs:s.step c with
    |none=>rw[Ts.run_none hs];exact h
    |some s'=>
      have e2:s.run c (n+1)=s'.run c n:=by rw[Ts.run,hs]
      rw[e2]
      exact Ts.Inv.run hc n (h.goes hc hs).1
theorem SmOk.more {c:Cfg}{b b' n:Nat}{x:Sm}(h:SmOk c b n x)(hb:b<=b'):SmOk c b' n x:=
  ⟨h.ne,h.eds,h.fails,Nat.le_trans h.by_ hb,λj hj=>by
    obtain⟨h1,h2,h3,h4,h5⟩:=h.job j hj
    exact⟨h1,h2,h3,Nat.le_trans h4 hb,h5⟩⟩
structure Begun (c:Cfg)(now:Nat)(l l':List Sm)(b b' r:Nat):Prop where
  same:l'.map Sm.l=l.map Sm.l
  le:b<=b'
  top:b'<=b+r
  ok:∀x∈l',SmOk c b' now x
  jobs:l'.Pairwise JobsNe
  old:∀x∈l',∀j,x.job=some j->(∃y∈l,∃k,y.job=some k/\k.num=j.num)\/b<j.num
theorem begins_ok {c:Cfg}{now:Nat}:∀(r:Nat) (l:List Sm) (g:ByteArray->ByteArray) (b:Nat),(∀x∈l,SmOk c b now x)->l.Pairwise JobsNe->Begun c now l (begins c now r l g b).1 b (begins c now r l g b).2 r
  |0,l,g,b,h,hj=>by
    rw[begins]
    exact⟨rfl,Nat.le_refl _,Nat.le_refl _,h,hj,λx hx j e=>.inl ⟨x,hx,j,e,rfl⟩⟩
  |r+1,[],g,b,h,hj=>by
    rw[begins]
    exact⟨rfl,Nat.le_refl _,by omega,h,hj,λx hx j e=>.inl ⟨x,hx,j,e,rfl⟩⟩
  |r+1,x::l,g,b,h,hj=>by
    have hx:=h x (by simp)
    have hl:∀y∈l,SmOk c b now y:=λy hy=>h y (by simp[hy])
    have hjl:=List.pairwise_cons.1 hj
    rw[begins]
    split
    · exact⟨rfl,Nat.le_refl _,by omega,h,hj,λx hx j e=>.inl ⟨x,hx,j,e,rfl⟩⟩
    rename_i hno
    split
    · rename_i hbe
      have R:=begins_ok r l (makes g x.l).1 (b+1) (λy hy=>(hl y hy).more (by omega)) hjl.2
      have hle:=R.le
      refine⟨by simp only[List.map_cons];rw[R.same],by have:=R.le;simp only;omega,by have:=R.top;simp only;omega,λy hy=>?_,?_,λy hy j e=>?_⟩
      · rcases List.mem_cons.1 hy with rfl|hy
        · have h1:x.fails<=c.retries:=by omega
          refine⟨hx.ne,hx.eds,hx.fails,Nat.le_trans hx.by_ (by omega),λj e=>?_⟩
          cases e
          exact⟨h1,hbe.1,by simp,hle,Nat.le_refl _⟩
        · exact R.ok y hy
      · rw[List.pairwise_cons]
        refine⟨λy hy j k ej ek=>?_,R.jobs⟩
        cases ej
        show b+1≠k.num
        rcases R.old y hy k ek with ⟨z,hz,i,ei,hi⟩|hlt
        · have:=((hl z hz).job i ei).2.2.2.1
          omega
        · omega
      · rcases List.mem_cons.1 hy with rfl|hy
        · cases e
          exact .inr (Nat.lt_succ_self b)
        · rcases R.old y hy j e with ⟨z,hz,i,ei,hi⟩|hlt
          · exact .inl ⟨z,by simp[hz],i,ei,hi⟩
          · exact .inr (by omega)
    · have R:=begins_ok r l (makes g x.l).1 b hl hjl.2
      refine⟨by simp only[List.map_cons];rw[R.same],R.le,by have:=R.top;simp only;omega,λy hy=>?_,?_,λy hy j e=>?_⟩
      · rcases List.mem_cons.1 hy with rfl|hy
        · exact hx.more R.le
        · exact R.ok y hy
      · rw[List.pairwise_cons]
        refine⟨λy hy j k ej ek=>?_,R.jobs⟩
        rcases R.old y hy k ek with ⟨z,hz,i,ei,hi⟩|hlt
        · have:=hjl.1 z hz j i ej ei
          omega
        · have:=(hx.job j ej).2.2.2.1
          omega
      · rcases List.mem_cons.1 hy with rfl|hy
        · exact .inl ⟨y,by simp,j,e,rfl⟩
        · rcases R.old y hy j e with ⟨z,hz,i,ei,hi⟩|hlt
          · exact .inl ⟨z,by simp[hz],i,ei,hi⟩
          · exact .inr hlt
theorem trainLen_map {l l':List Sm}(h:l'.map Sm.l=l.map Sm.l):trainLen l'=trainLen l:=by
  have e:∀k:List Sm,trainLen k=((k.map Sm.l).map List.length).sum:=λk=>by simp[trainLen,Function.comp_def]
  rw[e,e,h]
theorem Ts.Inv.begin {c:Cfg}{s:Ts}(h:s.Inv c):(s.begin c).Inv c:=by
  have R:=begins_ok (c:=c) (now:=s.now) c.window s.segs s.tip s.begun h.sm h.jobs
  refine⟨h.len,h.ord,h.top,h.nd,h.inn,h.ack,?_,h.main,?_,R.ok,R.jobs⟩
  · show s.outs.length+s.queue.length+trainLen (begins c s.now c.window s.segs s.tip s.begun).1=s.ids.length
    rw[trainLen_map R.same];exact h.cnt
  · show trainLen (begins c s.now c.window s.segs s.tip s.begun).1<=8
    rw[trainLen_map R.same];exact h.tr
theorem Ts.Inv.each {c:Cfg}{s:Ts}(h:s.Inv c)(n:Nat)(f:Sm->Sm)(hl:∀x,(f x).l=x.l)(hj:∀x∈s.segs,(f x).job=none\/(f x).job=x.job)(hok:∀x∈s.segs,SmOk c s.begun n (f x)):({s with now:=n,segs:=s.segs.map f}:Ts).Inv c:=by
  have e:(s.segs.map f).map Sm.l=s.segs.map Sm.l:=by rw[List.map_map];exact List.map_congr_left λx _=>hl x
  refine⟨h.len,h.ord,h.top,h.nd,h.inn,h.ack,?_,h.main,?_,λx hx=>?_,?_⟩
  · show s.outs.length+s.queue.length+trainLen (s.segs.map f)=s.ids.length
    rw[trainLen_map e];exact h.cnt
  · show trainLen (s.segs.map f)<=8
    rw[trainLen_map e];exact h.tr
  · obtain⟨y,hy,rfl⟩:=List.mem_map.1 hx
    exact hok y hy
  · show (s.segs.map f).Pairwise JobsNe
    rw[List.pairwise_map]
    refine List.Pairwise.imp_of_mem (fun {a b} ha hb hab=>?_) h.jobs
    intro j k ej ek
    rcases hj a ha with e1|e1
    · rw[e1] at ej;cases ej
    rcases hj b hb with e2|e2
    · rw[e2] at ek;cases ek
    exact hab j k (e1▸ej) (e2▸ek)
theorem Sm.ends_l (x:Sm)(p:Bool)(n:Nat):(x.ends p n).l=x.l:=by unfold Sm.ends;split<;>rfl
theorem Sm.ends_job (x:Sm)(p:Bool)(n:Nat):(x.ends p n).job=none:=by unfold Sm.ends;split<;>rfl
theorem Sm.runs_iff (x:Sm)(n:Nat):x.runs n=true↔∃j,x.job=some j/\j.num=n:=by
  unfold Sm.runs
  split
  · rename_i j e
    simp[e]
  · rename_i e
    simp[e]
theorem Sm.due_iff (x:Sm)(n:Nat):x.due n=true↔∃j,x.job=some j/\j.til<=n:=by
  unfold Sm.due
  split
  · rename_i j e
    simp[e]
  · rename_i e
    simp[e]
theorem SmOk.ends {c:Cfg}{b n n':Nat}{x:Sm}{j:Jb}(h:SmOk c b n x)(hj:x.job=some j)(p:Bool)(k:Nat)(hk:p=true->k<=b):SmOk c b n' (x.ends p k):=by
  obtain⟨h1,h2,h3,h4,h5⟩:=h.job j hj
  unfold Sm.ends
  split
  · rename_i hp
    exact⟨h.ne,h.eds,h.fails,hk hp,λj hj=>by cases hj⟩
  · exact⟨h.ne,h.eds,Nat.succ_le_succ h1,h.by_,λj hj=>by cases hj⟩
theorem SmOk.later {c:Cfg}{b n n':Nat}{x:Sm}(h:SmOk c b n x)(hn:n<=n'):SmOk c b n' x:=
  ⟨h.ne,h.eds,h.fails,h.by_,λj hj=>by
    obtain⟨h1,h2,h3,h4,h5⟩:=h.job j hj
    exact⟨h1,h2,h3,h4,by omega⟩⟩
theorem Ts.Inv.answer {c:Cfg}{s:Ts}(h:s.Inv c)(n:Nat)(p:Bool):(s.answer n p).Inv c:=by
  refine h.each s.now (λx=>if x.runs n then x.ends p n else x) (λx=>?_) (λx hx=>?_) λx hx=>?_
  · split
    · exact Sm.ends_l ..
    · rfl
  · split
    · exact .inl (Sm.ends_job ..)
    · exact .inr rfl
  · split
    · rename_i hr
      obtain⟨j,ej,hn⟩:=(Sm.runs_iff _ _).1 hr
      exact(h.sm x hx).ends ej p n λ_=>by have:=((h.sm x hx).job j ej).2.2.2.1;omega
    · exact h.sm x hx
theorem Ts.Inv.tick {c:Cfg}{s:Ts}(h:s.Inv c)(n:Nat):(s.tick n).Inv c:=by
  refine h.each (s.now+n) (λx=>if x.due (s.now+n) then x.ends false 0 else x) (λx=>?_) (λx hx=>?_) λx hx=>?_
  · split
    · exact Sm.ends_l ..
    · rfl
  · split
    · exact .inl (Sm.ends_job ..)
    · exact .inr rfl
  · split
    · rename_i hr
      obtain⟨j,ej,hn⟩:=(Sm.due_iff _ _).1 hr
      exact(h.sm x hx).ends ej false 0 λe=>by cases e
    · exact(h.sm x hx).later (by omega)
theorem Ts.Inv.lose {c:Cfg}{s:Ts}(h:s.Inv c):s.lose.Inv c:=
  h.each s.now (λx=>{x with job:=none}) (λx=>rfl) (λx hx=>.inl rfl) λx hx=>by
    have:=h.sm x hx
    exact⟨this.ne,this.eds,this.fails,this.by_,λj hj=>by cases hj⟩
theorem cancel_len {l:List Ch}(h:(l.map Ch.id).Nodup){n:Nat}(hx:∃x∈l,x.id=n):(l.filter λx=>x.id !=n).length+1=l.length:=by
  induction l with
  |nil=>obtain⟨x,hx,_⟩:=hx;simp at hx
  |cons y l ih=>
    rw[List.map_cons,List.nodup_cons] at h
    by_cases hy:y.id=n
    · have:(l.filter λx=>x.id !=n)=l:=List.filter_eq_self.2 λx hx=>by
        have:x.id≠n:=λe=>h.1 (by rw[hy,<-e];exact List.mem_map_of_mem hx)
        simpa using this
      rw[List.filter_cons]
      simp[hy,this]
    · obtain⟨x,hx,e⟩:=hx
      rcases List.mem_cons.1 hx with rfl|hx
      · exact absurd e hy
      have:=ih h.2 ⟨x,hx,e⟩
      rw[List.filter_cons]
      simp[hy,this]
theorem Ts.Inv.does {c:Cfg}{s:Ts}{r:Rc}(h:s.Inv c)(hc:c.Ok)(hr:s.Can c r):(s.does c r).Inv c:=by
  unfold Ts.does
  split
  · rename_i hk
    obtain⟨h1,h2,h3,h4,h5⟩:=hr.sub hk
    have hcnt:=h.cnt
    refine⟨by simp;omega,?_,λx hx=>?_,?_,λx hx=>?_,h.ack,?_,h.main,h.tr,h.sm,h.jobs⟩
    · show (s.queue++_).Pairwise _
      rw[List.pairwise_append]
      refine⟨h.ord,by simp,λx hx y hy=>?_⟩
      obtain rfl:=List.mem_singleton.1 hy
      exact(h.top x hx).1
    · simp only[List.length_append,List.length_singleton]
      rcases List.mem_append.1 hx with hx|hx
      · obtain⟨t1,t2,t3,t4⟩:=h.top x hx
        exact⟨by omega,t2,by omega,t4⟩
      · obtain rfl:=List.mem_singleton.1 hx
        exact⟨by simp,h4,by simp only;omega,h1,h5⟩
    · simp only[List.map_append,List.map_cons,List.map_nil]
      rw[List.nodup_append]
      refine⟨h.nd,by simp,λa ha b hb=>?_⟩
      obtain rfl:=List.mem_singleton.1 hb
      obtain⟨x,hx,rfl⟩:=List.mem_map.1 ha
      exact λe=>h2 (e▸h.inn x hx)
    · simp only[List.mem_append,List.mem_singleton]
      rcases List.mem_append.1 hx with hx|hx
      · exact .inl (h.inn x hx)
      · obtain rfl:=List.mem_singleton.1 hx
        exact .inr rfl
    · simp only[List.length_append,List.length_singleton]
      omega
  split
  · rename_i hk
    have hlen:=cancel_len h.nd (hr.cancel hk)
    have hcnt:=h.cnt
    refine⟨by have:=h.len;simp only;omega,h.ord.filter _,λx hx=>?_,List.Sublist.nodup (List.Sublist.map Ch.id (List.filter_sublist ..)) h.nd,λx hx=>h.inn x (List.mem_filter.1 hx).1,?_,?_,?_,h.tr,h.sm,h.jobs⟩
    · obtain⟨t1,t2,t3,t4⟩:=h.top x (List.mem_filter.1 hx).1
      exact⟨t1,t2,by simp only;omega,t4⟩
    · simp only[List.length_append,List.length_singleton];have:=h.ack;omega
    · simp only[List.length_append,List.length_singleton];omega
    · simp only[List.length_append,List.length_singleton];have:=h.main;omega
  split
  · exact(h.run hc _).begin
  split
  · exact h.answer _ _
  split
  · exact h.tick _
  split
  · rename_i hk
    exact⟨h.len,h.ord,h.top,h.nd,h.inn,hr.ack hk,h.cnt,h.main,h.tr,h.sm,h.jobs⟩
  · exact h.lose
def FitsT (c:Cfg)(g:ByteArray->ByteArray)(rs:List Rc):Prop:=∀k (hk:k<rs.length),(Ts.all c g (rs.take k)).Can c rs[k]
theorem FitsT.nil {c:Cfg}{g:ByteArray->ByteArray}:FitsT c g []:=λk hk=>by simp at hk
theorem FitsT.snoc {c:Cfg}{g:ByteArray->ByteArray}{rs:List Rc}{r:Rc}(h:FitsT c g rs)(hr:(Ts.all c g rs).Can c r):FitsT c g (rs++[r]):=λk hk=>by
  by_cases h1:k<rs.length
  · rw[List.take_append_of_le_length (by omega)]
    have:=h k h1
    rwa [List.getElem_append_left h1]
  · obtain rfl:k=rs.length:=by rw[List.length_append,List.length_singleton] at hk;omega
    rw[List.take_append_of_le_length (Nat.le_refl _),List.take_length,List.getElem_concat_length rfl]
    exact hr
theorem Ts.step_at {c:Cfg}{g:ByteArray->ByteArray}{rs:List Rc}{k:Nat}(hk:k<rs.length):Ts.all c g (rs.take (k+1))=(Ts.all c g (rs.take k)).does c rs[k]:=by
  rw[List.take_succ_eq_append_getElem hk,Ts.all_snoc]
theorem FitsT.take {c:Cfg}{g:ByteArray->ByteArray}{rs:List Rc}(h:FitsT c g rs):∀k,FitsT c g (rs.take k):=λk i hi=>by
  have hl:i<rs.length/\i<k:=by rw[List.length_take] at hi;omega
  rw[List.take_take,Nat.min_eq_left (by omega),List.getElem_take]
  exact h i hl.1
structure Ts.Few (s:Ts)(n:Nat):Prop where
  ids:s.ids.length<=n
  begun:s.begun<=4*n
  now:s.now<=1000*n
theorem Ts.step_same {c:Cfg}{s s':Ts}(hs:s.step c=some s'):s'.ids=s.ids/\s'.begun=s.begun/\s'.now=s.now/\s'.acked=s.acked:=by
  unfold Ts.step at hs
  split at hs
  · split at hs
    · cases hs
    · cases hs;exact⟨rfl,rfl,rfl,rfl⟩
  · split at hs
    · cases hs;exact⟨rfl,rfl,rfl,rfl⟩
    split at hs
    · cases hs;exact⟨rfl,rfl,rfl,rfl⟩
    split at hs
    · cases hs;exact⟨rfl,rfl,rfl,rfl⟩
    split at hs
    · cases hs
      unfold Ts.blame
      split<;>exact⟨rfl,rfl,rfl,rfl⟩
    · cases hs
theorem Ts.run_same {c:Cfg}:∀(n:Nat) (s:Ts),(s.run c n).ids=s.ids/\(s.run c n).begun=s.begun/\(s.run c n).now=s.now/\(s.run c n).acked=s.acked
  |0,s=>⟨rfl,rfl,rfl,rfl⟩
  |n+1,s=>by
    cases hs:s.step c with
    |none=>rw[Ts.run_none hs];exact⟨rfl,rfl,rfl,rfl⟩
    |some s'=>
      have e2:s.run c (n+1)=s'.run c n:=by rw[Ts.run,hs]
      obtain⟨a1,a2,a3,a4⟩:=Ts.run_same n s'
      obtain⟨b1,b2,b3,b4⟩:=Ts.step_same hs
      rw[e2]
      exact⟨a1.trans b1,a2.trans b2,a3.trans b3,a4.trans b4⟩
theorem Ts.Few.does {c:Cfg}{s:Ts}{r:Rc}{n:Nat}(h:s.Few n)(hI:s.Inv c)(hc:c.Ok)(hr:s.Can c r):(s.does c r).Few (n+1):=by
  obtain⟨f1,f2,f3⟩:=h
  unfold Ts.does
  split
  · exact⟨by simp;omega,by simp only;omega,by simp only;omega⟩
  split
  · exact⟨by simp only;omega,by simp only;omega,by simp only;omega⟩
  split
  · obtain⟨a1,a2,a3,_⟩:=Ts.run_same (c:=c) s.mu s
    have hI':=hI.run hc s.mu
    have R:=begins_ok (c:=c) (now:=(s.run c s.mu).now) c.window (s.run c s.mu).segs (s.run c s.mu).tip (s.run c s.mu).begun hI'.sm hI'.jobs
    have ht:=R.top
    have hw:=hc.2.2.2.1.2
    refine⟨?_,?_,?_⟩
    · show (s.run c s.mu).ids.length<=_
      rw[a1];omega
    · show (begins c _ c.window _ _ _).2<=_
      rw[a2] at ht ⊢
      omega
    · show (s.run c s.mu).now<=_
      rw[a3];omega
  split
  · exact⟨by show s.ids.length<=_;omega,by show s.begun<=_;omega,by show s.now<=_;omega⟩
  split
  · rename_i hk
    have:=(hr.tick hk).2
    exact⟨by show s.ids.length<=_;omega,by show s.begun<=_;omega,by show s.now+r.num<=_;omega⟩
  split
  · exact⟨by simp only;omega,by simp only;omega,by simp only;omega⟩
  · exact⟨by show s.ids.length<=_;omega,by show s.begun<=_;omega,by show s.now<=_;omega⟩
theorem FitsT.inv {c:Cfg}{g:ByteArray->ByteArray}{rs:List Rc}(h:FitsT c g rs)(hc:c.Ok):(Ts.all c g rs).Inv c/\(Ts.all c g rs).Few rs.length:=by
  have key:∀k,k<=rs.length->(Ts.all c g (rs.take k)).Inv c/\(Ts.all c g (rs.take k)).Few k:=λk=>by
    induction k with
    |zero=>intro _;exact⟨Ts.Inv.start c g,by simp[Ts.all,Ts.start],by simp[Ts.all,Ts.start],by simp[Ts.all,Ts.start]⟩
    |succ k ih=>
      intro hk
      rw[Ts.step_at (by omega)]
      obtain⟨i1,i2⟩:=ih (by omega)
      exact⟨i1.does hc (h k (by omega)),i2.does i1 hc (h k (by omega))⟩
  have:=key rs.length (Nat.le_refl _)
  rwa [List.take_length] at this
end Go.Proofs.YtgamgomepdfgdaaGreat
