import Derived.Test.YtgamgomepdfgdaaGreatEM08
import Derived.Test.YtgamgomepdfgdaaGreatEM04
set_option maxRecDepth 100000
set_option maxHeartbeats 8000000
namespace Go.Proofs.YtgamgomepdfgdaaGreat
open Go.RowKit Go.Proofs.Tryz
section
open Go.Maps
theorem lawI:Keyed prog 3:=int_keyed underlying3
theorem underS:prog.underlying 194=some (.map 3 258):=underlying194
theorem keyI {n:Nat}(h:n<9223372036854775808):keyOf prog 3 (.int .i64 n)=some (.int .i64 n):=keyOf_int_mk underlying3 (by simp[Lit.wf,IntKind.min,IntKind.max,IntKind.signed,IntKind.bits];omega)
theorem zeroU (w:World):(zeroValue 258).run prog w=.ok (.agg #[]) w:=by kernel_rfl
def Subm (w:World)(sb:Nat)(ids:List Nat):Prop:=∃D:DataW Unit,w.ownsMap prog 3 unitElem sb ids.length D/\Maps.size D=ids.length/\∀i:Nat,Maps.has D (.int .i64 i)=ids.contains i
theorem Subm.lt {w:World}{sb:Nat}{ids:List Nat}(h:Subm w sb ids):sb<w.heap.size:=by
  obtain⟨D,h1,h2,h3⟩:=h
  exact h1.lt
theorem Subm.same {w w':World}{sb:Nat}{ids:List Nat}(h:Subm w sb ids)(hb:w'.heap[sb]? =w.heap[sb]?):Subm w' sb ids:=by
  obtain⟨D,h1,h2,h3⟩:=h
  refine⟨D,?_,h2,h3⟩
  obtain⟨es,clock,hh,hr⟩:=h1
  exact⟨es,clock,hb.trans hh,hr⟩
theorem Subm.made (w:World):Subm (w.alloc (.map #[] 0)) w.heap.size []:=⟨.map [],World.ownsMap_made _ _ _ _,rfl,λ_=>rfl⟩
theorem Subm.put {w':World}{sb n:Nat}{ids:List Nat}{D:DataW Unit}(hD:IsMap D)(hT:Tidy D)(hs:Maps.size D=ids.length)(hh:∀i:Nat,Maps.has D (.int .i64 i)=ids.contains i)(hn:n∉ids)(h:w'.ownsMap prog 3 unitElem sb (ids.length+1) (D.put (.int .i64 n) (.agg []))):Subm w' sb (ids++[n]):=by
  have h0:Maps.has D (.int .i64 n)=false:=by rw[hh n];simpa using hn
  refine⟨_,by rw[List.length_append];exact h,?_,λi=>?_⟩
  · rw[Maps.size_put hT,h0];simp[hs]
  · by_cases e:i=n
    · subst e
      rw[has_put_same hD (show WideAt.IsKeyLit (Lit.int .i64 (i:Int)) from trivial)];simp
    · rw[has_put_other (λx=>e (by injection x with _ x;omega)),hh i]
      simp[e]
end
def Typed (w:World)(g:Nat)(e:TypeId):Prop:=∃cur,w.heap[g]? =some (.cells cur e (0,0))
theorem Typed.lt {w:World}{g:Nat}{e:TypeId}(h:Typed w g e):g<w.heap.size:=by
  obtain⟨cur,h⟩:=h
  exact(Array.getElem?_eq_some_iff.1 h).1
theorem Typed.later {w w':World}{g:Nat}{e:TypeId}(h:Typed w g e)(hb:Below w.heap.size w w'):Typed w' g e:=by
  have hl:=h.lt
  obtain⟨cur,h⟩:=h
  exact⟨cur,(hb.block g hl).trans h⟩
theorem Typed.set {w:World}{g:Nat}{e:TypeId}(h:Typed w g e)(o:Nat)(u:Value):Typed (w.setCell ⟨g,o,none⟩ u) g e:=by
  obtain⟨cur,h⟩:=h
  exact⟨cur.setIfInBounds o u,by simp[World.setCell,Array.getElem?_modify,h]⟩
theorem Typed.of_row {w:World}{base:Nat}{e:TypeId}{size n g m:Nat}{xs:List Value}(h:w.ownsRow base e size (.slice (some ⟨g,0,none⟩) n m) n xs):Typed w g e:=by
  rcases h.2 with ⟨h',_⟩|⟨g',cap',cur,h',hb,hg,_⟩
  · cases h'
  · cases h'
    exact⟨cur,hg⟩
theorem Sl.of_half {w:World}{g n:Nat}{e:TypeId}{es:List Ed}(h:Half w g es.length es.length es)(ht:Typed w g e)(hn:es.length<=n)(hm:n<=maxLen:=by decide):Sl w e 3 (.slice (some ⟨g,0,none⟩) es.length es.length) es.length (es.flatMap cE):=by
  obtain⟨cur,hc⟩:=ht
  have key:∀j v,w.cell? ⟨g,j,none⟩=some v->cur[j]? =some v:=λj v hv=>by
    simpa[World.cell?,hc] using hv
  refine⟨flat_len cE 3 (λ_=>rfl) es,.inr ⟨g,0,es.length,cur,rfl,hc,Nat.le_refl _,Nat.le_trans hn hm,?_,λj u hu=>?_⟩⟩
  · rcases Nat.eq_zero_or_pos es.length with h0|h0
    · omega
    · obtain⟨v,hv⟩:=(h.2.1 (es.length*3-1) (by omega)).1
      have:=(Array.getElem?_eq_some_iff.1 (key _ _ hv)).1
      omega
  · have hj:=(List.getElem?_eq_some_iff.1 hu).1
    rw[flat_len cE 3 (λ_=>rfl)] at hj
    have hi:j/3<es.length:=by omega
    have e':j=j/3*3+j%3:=by omega
    have hg:=flat_get cE 3 (λ_=>rfl) es (j/3) (j%3) hi (by omega)
    rw[<-e',hu] at hg
    obtain⟨h0,h1,h2⟩:=h.2.2 (j/3) hi hi
    rw[Nat.zero_add]
    rcases (show j%3=0\/j%3=1\/j%3=2 by omega) with hr|hr|hr
    · rw[hr] at hg
      have hv:u=.string es[j/3].1:=by simpa[cE] using hg
      rw[hv,<-key _ _ h0];congr 1;omega
    · rw[hr] at hg
      have hv:u=.string es[j/3].2.1:=by simpa[cE] using hg
      rw[hv,<-key _ _ h1];congr 1;omega
    · rw[hr] at hg
      have hv:u=.string es[j/3].2.2:=by simpa[cE] using hg
      rw[hv,<-key _ _ h2];congr 1;omega
theorem copyEdits_sl (es:List Ed)(b off cap:Nat)(w:World)(hlt:b<w.heap.size)(h0:∀i (h:i<es.length),w.cell? ⟨b,off+i*3,none⟩=some (.string es[i].1))(h1:∀i (h:i<es.length),w.cell? ⟨b,off+i*3+1,none⟩=some (.string es[i].2.1))(h2:∀i (h:i<es.length),w.cell? ⟨b,off+i*3+2,none⟩=some (.string es[i].2.2))(hn:es.length<=4)(hsz:∀x∈es,x.1.size<=281474976710656/\x.2.1.size<=281474976710656/\x.2.2.size<=281474976710656):
    Calls prog 167 #[.slice (some ⟨b,off,none⟩) es.length cap] w λe w'=>e=.returned (.slice (some ⟨w.heap.size,0,none⟩) es.length es.length)/\Sl w' 49 3 (.slice (some ⟨w.heap.size,0,none⟩) es.length es.length) es.length (es.flatMap cE)/\Below w.heap.size w w':=by
  obtain⟨i0,hi,hz0,hz1,hz2⟩:=info_parts info49c
  have q2:i0.bytes*es.length<=281474976710656:=by rw[hz2];omega
  have q3:es.length<=maxLen:=by unfold maxLen;omega
  go_enter func167,ntmps167
  go_wp2_with (at_make;refine wpList_make_full _ rfl _ _ _ rfl w.heap.size _ i0 _ 3 underlying27 hi hz0 hz1 _ _ _ _ es.length rfl rfl (by omega) (by omega) q2 q3 (Nat.le_refl _) ?_;intro w1 hrow1 hg1)
  have H1:Half w1 w.heap.size es.length 0 es:=Half.made hrow1
  have hb1:Below w.heap.size w w1:=(Below.refl _ _).grown hg1 (Nat.le_refl _) (by simp)
  have T1:Typed w1 w.heap.size 49:=Typed.of_row hrow1
  clear hrow1 hg1 q2 q3
  go_loopw [11] (λi wr=>∃k:Nat,k<=es.length/\i=.int .i64 k/\Half wr w.heap.size es.length k es/\Below w.heap.size w wr/\Hid (Typed wr w.heap.size 49)) (λi _=>es.length-(intOf i).toNat)
  case atStart=>exact⟨0,Nat.zero_le _,rfl,H1,hb1,T1⟩
  case round=>
    obtain⟨k,hk,rfl,hH,hb,hT⟩:=hrel
    clear H1 hb1 T1
    by_cases hlk:k<es.length
    · obtain⟨g0,g1,g2,gb⟩:=edits_cells hb hlt h0 h1 h2
      obtain⟨s0,s1,s2⟩:=hsz _ (List.getElem_mem hlk)
      have e0:=g0 k hlk
      have e1:=g1 k hlk
      have e2:=g2 k hlk
      have hset:Hid (∀w',Half w' w.heap.size es.length k es->Half (((w'.setCell ⟨w.heap.size,k*3,none⟩ (.string es[k].1)).setCell ⟨w.heap.size,k*3+1,none⟩ (.string es[k].2.1)).setCell ⟨w.heap.size,k*3+2,none⟩ (.string es[k].2.2)) w.heap.size es.length (k+1) es):=λw' h=>h.set hlk rfl
      have hH0:Hid (Half wr w.heap.size es.length k es):=hH
      have Hb:Hid (Below w.heap.size w wr):=hb
      have hgne:w.heap.size≠wr.heap.size:=Nat.ne_of_lt hH.1
      clear h0 h1 h2 hsz g0 g1 g2 hH hb
      generalize es[k].1=p at s0 e0 hset
      generalize es[k].2.1=o at s1 e1 hset
      generalize es[k].2.2=n at s2 e2 hset
      go_wp2
      go_region_held_law (λw'=>w'.cell? ⟨wr.heap.size,0,none⟩=some (.string p)/\w'.cell? ⟨wr.heap.size,1,none⟩=some (.string o)/\w'.cell? ⟨wr.heap.size,2,none⟩=some (.string n)) (go_keep) (first
        |(go_at_call 129;refine(clone_any p _ s0).mono ?_;rintro e w2 ⟨rfl,hb2⟩;have k0:w2.cell? ⟨wr.heap.size,0,none⟩=some (.string p):=cell_after hb2 (by simp);have k1:w2.cell? ⟨wr.heap.size,1,none⟩=some (.string o):=cell_after hb2 (by simp);have k2:w2.cell? ⟨wr.heap.size,2,none⟩=some (.string n):=cell_after hb2 (by simp);have B2:Hid (Below wr.heap.size wr w2):=below_draw hb2 rfl rfl rfl rfl;have H2:Hid (Half w2 w.heap.size es.length k es):=hH0.out.later B2.out)
        |(go_at_call 129;refine(clone_any o _ s1).mono ?_;rintro e w3 ⟨rfl,hb3⟩;have k3:=cell_after hb3 k0;have k4:=cell_after hb3 k1;have k5:=cell_after hb3 k2)
        |(go_at_call 129;refine(clone_any n _ s2).mono ?_;rintro e w4 ⟨rfl,hb4⟩;have k6:=cell_after hb4 k3;have k7:=cell_after hb4 k4;have k8:=cell_after hb4 k5;have hH4:Half w4 w.heap.size es.length k es:=Half.later (Half.later H2.out hb3) hb4;have B4:Hid (Below wr.heap.size wr w4):=(B2.out.trans (hb3.mono B2.out.size)).trans (hb4.mono (Nat.le_trans B2.out.size hb3.size));have z0:=(hH4.2.1 (k*3) (by omega)).2;have z1:=(hH4.2.1 (k*3+1) (by omega)).2;have z2:=(hH4.2.1 (k*3+2) (by omega)).2;obtain⟨u0,y0⟩:=(hH4.2.1 (k*3) (by omega)).1;obtain⟨u1,y1⟩:=(hH4.2.1 (k*3+1) (by omega)).1;obtain⟨u2,y2⟩:=(hH4.2.1 (k*3+2) (by omega)).1))
      have hN:=hset.out _ (by assumption)
      have hB4:Below w.heap.size w w4:=Hb.out.trans (B4.out.mono Hb.out.size)
      have h2:w.heap.size<=w.heap.size:=Nat.le_refl _
      have T4:Hid (Typed w4 w.heap.size 49):=hT.out.later B4.out
      go_wp2
      go_roundw
      case rel=>exact⟨k+1,hlk,by go_num,hN,((hB4.setCell h2 _).setCell h2 _).setCell h2 _,((T4.out.set _ _).set _ _).set _ _⟩
      case measure=>simp[intOf];omega
    · go_wp2
      go_ret
      have hkl:k=es.length:=by omega
      subst hkl
      exact⟨rfl,Sl.of_half hH hT.out hn,hb⟩
theorem outDrop (yb i n:Nat)(t:TypeId)(v:Value)(cs:Array Value)(x0 x1 x2:Int)(xs:List Value)(w:World)(hB:Bx w yb t cs)(hv:cs[i]? =some v)(hS:Sl w 99 3 v (n+1) (.int .i64 x0::.int .i64 x1::.int .i64 x2::xs))(hne:v.ownBlock≠some yb):
    Calls prog 121 #[.pointer (some ⟨yb,i,none⟩)] w λe w'=>e=.returned (.tuple #[])/\∃v',Bx w' yb t (cs.setIfInBounds i v')/\Sl w' 99 3 v' n xs/\v'.ownBlock=v.ownBlock/\Only w w' (λk=>k=yb\/v.ownBlock=some k):=by
  obtain⟨g,off,cap,rfl,hnc,hcm⟩:=hS.addr (by omega)
  have c0:=hB.cell hv
  have f0:=hB.fr i
  have d1:w.cell? ⟨g,off+1,none⟩=some (.int .i64 x1):=hS.cell (j:=1) rfl
  have d2:w.cell? ⟨g,off+2,none⟩=some (.int .i64 x2):=hS.cell (j:=2) rfl
  have z1:=hS.fr (off+1)
  have z2:=hS.fr (off+2)
  have hl:=hB.lt
  have hg:g<w.heap.size:=hS.lt rfl
  have hn0:((n:Int)+1==0)=false:=by simp;omega
  have hgy:g≠yb:=λe=>hne (by rw[e];rfl)
  have hyg:yb≠g:=hgy.symm
  have hgw:g≠w.heap.size:=by omega
  have hyw:yb≠w.heap.size:=by omega
  have HB:Hid (Bx w yb t cs):=hB
  have HS:Hid (Sl w 99 3 (.slice (some ⟨g,off,none⟩) (n+1) cap) (n+1) (.int .i64 x0::.int .i64 x1::.int .i64 x2::xs)):=hS
  clear hB hS
  go_enter func121,ntmps121
  go_upto_region 2 with fail
  have e0:∀o,(w.alloc o).cell? ⟨yb,i,none⟩=some (.slice (some ⟨g,off,none⟩) (n+1) cap):=λo=>(HB.out.mk o).cell hv
  have a0:∀o,(w.alloc o).cell? ⟨g,off,none⟩=some (.int .i64 x0):=λo=>(HS.out.mk o).cell (j:=0) rfl
  have b0:∀o j,(w.alloc o).frozen? ⟨g,j,none⟩=false:=λo j=>(HS.out.mk o).fr j
  have hfin:Hid (∀o' c',c'=cap-1->o'=(if cap-1=0 then off else off+3)->∀W,W=(((((w.setCell ⟨g,off,none⟩ (.int .i64 0)).setCell ⟨g,off+1,none⟩ (.int .i64 0)).setCell ⟨g,off+2,none⟩ (.int .i64 0)).setCell ⟨yb,i,none⟩ (.slice (some ⟨g,o',none⟩) n c')).alloc (.cells #[.int .i64 0,.int .i64 0,.int .i64 0] 99)).drew->∃v',Bx W yb t (cs.setIfInBounds i v')/\Sl W 99 3 v' n xs/\v'.ownBlock=some g/\Only w W (λk=>k=yb\/some g=some k)):=λo' c' hc ho W hW=>by
    subst hc ho hW
    have hW:=drop_world (i:=i) HB.out (drop_sl HS.out (.int .i64 0) (.int .i64 0) (.int .i64 0)) (grown3 _ _ _ _ _ _ _ _) hgy rfl (.cells #[.int .i64 0,.int .i64 0,.int .i64 0] 99)
    exact⟨_,hW.1,hW.2.1,rfl,hW.2.2⟩
  by_cases hc1:cap=1
  · subst hc1
    obtain rfl:n=0:=by omega
    go_region_law (fail)
    all_goals go_wp2_with fail
    all_goals
      refine bodyPost_end (v:=.tuple #[]) (results_none (by kernel_rfl) _ _ _) rfl ⟨rfl,?_⟩
      exact hfin.out off 0 rfl rfl _ rfl
  · have hs3:Hid ((some ⟨g,off+3,none⟩:Option Addr)=some ⟨g,if cap-1=0 then off else off+3,none⟩):=by
      have hc2:¬cap-1=0:=by omega
      show _=_
      rw[if_neg hc2]
    go_region_law (fail)
    all_goals go_wp2_with fail
    all_goals
      refine bodyPost_end (v:=.tuple #[]) (results_none (by kernel_rfl) _ _ _) rfl ⟨rfl,?_⟩
      refine hfin.out (off+3) (cap-1) rfl (by have:=hs3.out;injection this with this;injection this) _ ?_
      rfl
end Go.Proofs.YtgamgomepdfgdaaGreat
