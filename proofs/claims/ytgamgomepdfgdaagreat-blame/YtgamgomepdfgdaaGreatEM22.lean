import Derived.RangeFuncNested
import Derived.RangeFuncWrites
import Derived.RangeFuncBound
import Derived.RangeFuncCalls
import Derived.RangeFuncLeaves
import Derived.Shelf.Abstract
import Derived.Shelf.RegionOpen
import Derived.OwnWalkIn
import Derived.TacticsInMore
import Derived.LoopNIn
import Derived.LoopIn
import Derived.Test.YtgamgomepdfgdaaGreatEM18
import Derived.Test.YtgamgomepdfgdaaGreatEM16
set_option maxRecDepth 100000
set_option maxHeartbeats 8000000
namespace Go.Proofs.YtgamgomepdfgdaaGreat
open Go.RowKit Go.Proofs.Tryz
theorem yOldest_some (S:Nat->Prop)(yb mb n0:Nat)(c:Cfg)(s:Ts)(w:World)(hY:YardAt w S yb mb n0 c s)(ha:s.acked<s.outs.length):
    Calls prog 123 #[.pointer (some ⟨yb,0,none⟩)] w λe w'=>e=.returned (.tuple #[.agg #[.int .i64 ((s.acked:Int)+1),.int .i64 (s.outs[s.acked]'ha).1,.int .i64 (s.outs[s.acked]'ha).2],.bool true])/\Below w.heap.size w w':=by
  obtain⟨q,sb,qv,ov,xt,h,hx⟩:=hY
  have hd:s.outs.drop s.acked=s.outs[s.acked]::s.outs.drop (s.acked+1):=List.drop_eq_getElem_cons ha
  have hS:=h.outs.row
  rw[hd,oc] at hS
  obtain⟨m,hm⟩:∃m,s.outs.length-s.acked=m+1:=⟨s.outs.length-s.acked-1,by omega⟩
  rw[hm] at hS
  have hF:=outFirst_some yb 15 m 201 _ _ _ ov _ _ (w.alloc (.cells #[.int .i64 0,.int .i64 0,.int .i64 0] 99)) (h.box.mk _) rfl (hS.mk _)
  generalize s.outs[s.acked]=o at *
  clear h hx hS hd hm
  go_enter func123,ntmps123
  go_wp2_with fail
  go_fit hF
  rintro e w1 ⟨rfl,hb1⟩
  have d0:w1.cell? ⟨w.heap.size,0,none⟩=some (.int .i64 0):=jcell_after hb1 (by simp)
  have d1:w1.cell? ⟨w.heap.size,1,none⟩=some (.int .i64 0):=jcell_after hb1 (by simp)
  have d2:w1.cell? ⟨w.heap.size,2,none⟩=some (.int .i64 0):=jcell_after hb1 (by simp)
  have fr:∀i,w1.frozen? ⟨w.heap.size,i,none⟩=false:=λi=>frozen_after hb1 (by simp) ((Bx.new w #[.int .i64 0,.int .i64 0,.int .i64 0] 99).fr i)
  have HB:Hid (Below w.heap.size w w1):=(below_new _ _).trans (hb1.mono (by simp))
  have B1:Hid (Bx w1 w.heap.size 99 #[.int .i64 0,.int .i64 0,.int .i64 0]):=(hb1.block _ (by simp)).trans (Bx.new w #[.int .i64 0,.int .i64 0,.int .i64 0] 99)
  clear hb1 hF
  go_wp2_with fail
  have BW:=((B1.out.set 0 (.int .i64 ((s.acked:Int)+1))).set 1 (.int .i64 o.1)).set 2 (.int .i64 o.2)
  simp only[List.setIfInBounds_toArray,List.set_cons_zero,List.set_cons_succ] at BW
  have HW:=below_set (below_set (below_set HB.out (Nat.le_refl _) 0 (.int .i64 ((s.acked:Int)+1))) (Nat.le_refl _) 1 (.int .i64 o.1)) (Nat.le_refl _) 2 (.int .i64 o.2)
  generalize ((w1.setCell ⟨w.heap.size,0,none⟩ (.int .i64 ((s.acked:Int)+1))).setCell ⟨w.heap.size,1,none⟩ (.int .i64 o.1)).setCell ⟨w.heap.size,2,none⟩ (.int .i64 o.2)=W at *
  have e0:=BW.c 0 (.int .i64 ((s.acked:Int)+1))
  have e1:=BW.c 1 (.int .i64 o.1)
  have e2:=BW.c 2 (.int .i64 o.2)
  exact bodyPost_ret (v:=.tuple #[.agg #[.int .i64 ((s.acked:Int)+1),.int .i64 o.1,.int .i64 o.2],.bool true]) (by simp[results,results123,go_sem,e0,e1,e2]) rfl ⟨rfl,HW⟩
theorem yOldest_none (S:Nat->Prop)(yb mb n0:Nat)(c:Cfg)(s:Ts)(w:World)(hY:YardAt w S yb mb n0 c s)(ha:s.acked=s.outs.length):
    Calls prog 123 #[.pointer (some ⟨yb,0,none⟩)] w λe w'=>e=.returned (.tuple #[.agg #[.int .i64 0,.int .i64 0,.int .i64 0],.bool false])/\Below w.heap.size w w':=by
  obtain⟨q,sb,qv,ov,xt,h,hx⟩:=hY
  have hS:=h.outs.row
  rw[ha,List.drop_length,Nat.sub_self] at hS
  have hF:=outFirst_none yb 15 201 ov _ (w.alloc (.cells #[.int .i64 0,.int .i64 0,.int .i64 0] 99)) (h.box.mk _) rfl (hS.mk _)
  clear h hx hS
  go_enter func123,ntmps123
  go_wp2_with fail
  go_fit hF
  rintro e w1 ⟨rfl,hb1⟩
  have d0:w1.cell? ⟨w.heap.size,0,none⟩=some (.int .i64 0):=jcell_after hb1 (by simp)
  have d1:w1.cell? ⟨w.heap.size,1,none⟩=some (.int .i64 0):=jcell_after hb1 (by simp)
  have d2:w1.cell? ⟨w.heap.size,2,none⟩=some (.int .i64 0):=jcell_after hb1 (by simp)
  have fr:∀i,w1.frozen? ⟨w.heap.size,i,none⟩=false:=λi=>frozen_after hb1 (by simp) ((Bx.new w #[.int .i64 0,.int .i64 0,.int .i64 0] 99).fr i)
  have HB:Hid (Below w.heap.size w w1):=(below_new _ _).trans (hb1.mono (by simp))
  have B1:Hid (Bx w1 w.heap.size 99 #[.int .i64 0,.int .i64 0,.int .i64 0]):=(hb1.block _ (by simp)).trans (Bx.new w #[.int .i64 0,.int .i64 0,.int .i64 0] 99)
  clear hb1 hF
  go_wp2_with fail
  have BW:=((B1.out.set 0 (.int .i64 0)).set 1 (.int .i64 0)).set 2 (.int .i64 0)
  simp only[List.setIfInBounds_toArray,List.set_cons_zero,List.set_cons_succ] at BW
  have HW:=below_set (below_set (below_set HB.out (Nat.le_refl _) 0 (.int .i64 0)) (Nat.le_refl _) 1 (.int .i64 0)) (Nat.le_refl _) 2 (.int .i64 0)
  generalize ((w1.setCell ⟨w.heap.size,0,none⟩ (.int .i64 0)).setCell ⟨w.heap.size,1,none⟩ (.int .i64 0)).setCell ⟨w.heap.size,2,none⟩ (.int .i64 0)=W at *
  have e0:=BW.c 0 (.int .i64 0)
  have e1:=BW.c 1 (.int .i64 0)
  have e2:=BW.c 2 (.int .i64 0)
  exact bodyPost_ret (v:=.tuple #[.agg #[.int .i64 0,.int .i64 0,.int .i64 0],.bool false]) (by simp[results,results123,go_sem,e0,e1,e2]) rfl ⟨rfl,HW⟩
section
open Go.Shelf
attribute [local go_sem] Oper.semAt_some
abbrev Pt (ps:List Nat):={p:Nat//p∈ps}
def KpOf (v:Value)(A B:World):Prop:=∀g,v.ownBlock=some g->B.heap[g]? =A.heap[g]?
theorem sv_run (F:Fence)(n:Nat)(hF:F.fn 223)(hro:F.round=none)(hn:1<=n)(l Bs:Nat)(a:Option Addr)(cap:Nat)(ps:List Nat)(hlen:ps.length<=1048576)(J Jx:List (Pt ps)->World->Prop)(hY:∀pre x W,J pre W->pre.length<ps.length->YieldAt F (n-1) prog l #[ptr x.1] W λe W'=>(e=.returned (.bool true)/\J (pre++[x]) W'/\KpOf (.slice a ps.length cap) W W')\/(e=.returned (.bool false)/\Jx (pre++[x]) W'))(W:World)(hBs:W.cell? ⟨Bs,0,none⟩=some (.slice a ps.length cap))(hS:Sl W 210 1 (.slice a ps.length cap) ps.length (ps.map ptr))(h0:J [] W):
    CallsIn F n prog 223 #[.func (.yield l) #[] #[],.pointer (some ⟨Bs,0,none⟩)] W λe W'=>(∃v,e=.returned v)/\
      ((∃ys,ys=ps.attach/\J ys W')\/(∃pre,(∃k,k<=ps.length/\pre=ps.attach.take k)/\Jx pre W')):=by
  have HS:Hid (Sl W 210 1 (.slice a ps.length cap) ps.length (ps.map ptr)):=hS
  have HL:Hid (ps.attach.length=ps.length):=List.length_attach
  clear hS
  refine callsIn_of_wp func223 rfl hF ?_ hro
  simp only[ntmps223,List.size_toArray,List.length_cons,List.length_nil,Nat.reduceAdd,Nat.reduceSub,Array.replicate_succ,Array.replicate_zero,List.push_toArray,List.append_toArray,List.nil_append,List.cons_append]
  gi_wp2
  gi_loopw [7] (λi wr=>∃k:Nat,k<=ps.length/\i=.int .i64 k/\J (ps.attach.take k) wr/\Hid (Sl wr 210 1 (.slice a ps.length cap) ps.length (ps.map ptr)))
    (λi _=>ps.length-(intOf i).toNat)
  case atStart=>exact⟨0,Nat.zero_le _,rfl,h0,HS⟩
  case round=>
    obtain⟨k,hk,rfl,hJs,hS⟩:=hrel
    by_cases hlt:k<ps.length
    · obtain⟨g,off,cap',hv,_⟩:=hS.out.addr (by omega)
      cases hv
      have hlk:k<ps.attach.length:=by rw[HL.out];exact hlt
      obtain⟨fn,tmps,assign,body,hy,hR⟩:=hY _ ps.attach[k] wr hJs (by rw[List.length_take,HL.out];omega)
      have hcx:wr.cell? ⟨g,off+k,none⟩=some (ptr ps.attach[k].1):=by
        have:=hS.out.cell (j:=k) (u:=ptr ps.attach[k].1) (by simp[hlt])
        exact this
      have HT:Hid (ps.attach.take (k+1)=ps.attach.take k++[ps.attach[k]]):=List.take_succ_eq_append_getElem hlk
      generalize ps.attach[k]=x at *
      unfold ptr at hcx hy
      gi_wp2
      refine hR.mono ?_
      rintro e W3 (⟨rfl,hJ3,hk3⟩|⟨rfl,hJx3⟩)
      · gi_wp2
        go_roundw
        case rel=>exact⟨k+1,by omega,by simp,by rw[HT.out];exact hJ3,hS.out.kept hk3⟩
        case measure=>simp[intOf];omega
      · gi_wp2
        refine bodyPost_ret (results_none rfl _ _ _) rfl ?_
        exact⟨⟨_,rfl⟩,.inr ⟨_,⟨k+1,by omega,HT.out.symm⟩,hJx3⟩⟩
    · obtain rfl:k=ps.length:=by omega
      gi_wp2
      go_end0
      exact⟨⟨_,rfl⟩,.inl ⟨_,rfl,by have:=hJs;rwa [<-HL.out,List.take_length] at this⟩⟩
theorem sv_stops (F:Fence)(n:Nat)(hF:F.fn 223)(hro:F.round=none)(hn:1<=n)(Bs:Nat)(v:Value)(ps:List Nat)(hlen:ps.length<=1048576)(w:World)(hB:Bs<w.heap.size)(hc:w.cell? ⟨Bs,0,none⟩=some v)(hS:Sl w 210 1 v ps.length (ps.map ptr)):
    SeqStopsK F n prog 223 #[.pointer (some ⟨Bs,0,none⟩)] (λx:Pt ps=>#[ptr x.1]) (KpOf v) (λys=>ys=ps.attach) (λpre=>∃k,k<=ps.length/\pre=ps.attach.take k) ps.length w:=λl J Jx W hW _ _ hY h0=>by
  have hc':=(hW.cell (p:=⟨Bs,0,none⟩) hB).trans hc
  obtain⟨a,cap,rfl⟩:=hS.form
  exact sv_run F n hF hro hn l Bs a cap ps hlen J Jx hY W hc' (hS.later hW) h0
theorem sv_make (a:Option Addr)(m cap:Nat)(w:World):
    Calls prog 188 #[.slice a m cap] w λe w'=>e=.returned (.func (.func 223) #[] #[.pointer (some ⟨w.heap.size,0,none⟩)])/\w'=w.alloc (.cells #[.slice a m cap] 195):=by
  go_enter func188,ntmps188
  go_wp2_with fail
  go_ret
  exact⟨rfl,rfl⟩
theorem lineAll (yb:Nat)(a:Option Addr)(m cap:Nat)(w:World)(hc:w.cell? ⟨yb,11,none⟩=some (.slice a m cap)):
    Calls prog 147 #[.pointer (some ⟨yb,11,none⟩)] w λe w'=>e=.returned (.func (.func 223) #[] #[.pointer (some ⟨w.heap.size,0,none⟩)])/\w'=w.alloc (.cells #[.slice a m cap] 195):=by
  go_enter func147,ntmps147
  go_wp2_with fail
  go_fit (sv_make a m cap w)
  rintro e w1 ⟨rfl,rfl⟩
  go_wp2_with fail
  go_ret
  exact⟨rfl,rfl⟩
theorem kpOf_t {v:Value}{A B C:World}(h:KpOf v A B)(k:KpOf v B C):KpOf v A C:=λg hg=>(k g hg).trans (h g hg)
theorem kpOf_b {v:Value}{w:World}(hv:∀g,v.ownBlock=some g->g<w.heap.size)(W:World)(l:Nat)(o o':Obj)(hl:w.heap.size<=l)(_:W.heap[l]? =some o)(_:o.isCells=false)(_:o.isWalk=false):KpOf v W (W.putObj l o'):=λg hg=>World.putObj_heap_other (by have:=hv g hg;omega)
end
theorem yCheck2 (S:Nat->Prop)(yb mb n0:Nat)(c:Cfg)(s:Ts)(id:Int)(w:World)(hY:YardAt w S yb mb n0 c s)(hq:s.queue.length<=16):
    Calls prog 110 #[.pointer (some ⟨yb,0,none⟩),.agg #[.int .i64 2,.int .i64 0,.slice none 0 0,.int .i64 id,.bool false,.int .i64 0]] w λe w'=>(((∃x∈s.queue,(x.id:Int)=id)/\e=.returned (.int .i64 0))\/((¬∃x∈s.queue,(x.id:Int)=id)/\e=.returned (.int .i64 5)))/\Below w.heap.size w w':=by
  obtain⟨q,sb,qv,ov,xt,h,hx⟩:=hY
  have hW:=yWaits q c.age yb id qv _ (w.alloc (.cells #[.int .i64 2,.int .i64 0,.slice none 0 0,.int .i64 id,.bool false,.int .i64 0] 140)) (h.box.mk _) rfl (h.que.row.mk _) h.sl (by rw[h.qlen];exact hq)
  have hp:(∃x∈q,(x.1.id:Int)=id)↔∃x∈s.queue,(x.id:Int)=id:=by
    constructor
    · rintro⟨x,hx,he⟩
      exact⟨x.1,h.qs.mem_iff.1 (List.mem_map.2 ⟨x,hx,rfl⟩),he⟩
    · rintro⟨x,hx,he⟩
      obtain⟨y,hy,rfl⟩:=List.mem_map.1 (h.qs.mem_iff.2 hx)
      exact⟨y,hy,he⟩
  have HP:Hid _:=hp
  generalize (∃x∈q,(x.1.id:Int)=id)=p at hW HP
  generalize (∃x∈s.queue,(x.id:Int)=id)=r at HP ⊢
  clear h hx hp
  go_enter func110,ntmps110
  go_wp2_with fail
  go_fit hW
  rintro e w1 ⟨⟨t,rfl,ht⟩,hb1⟩
  have HB:Hid (Below w.heap.size w w1):=(below_new _ _).trans (hb1.mono (by simp))
  have Ht:Hid (t=true↔r):=ht.trans HP.out
  clear ht hb1 hW HP
  cases t
  · go_wp2_with fail
    go_ret
    exact⟨.inr ⟨λx=>Bool.noConfusion (Ht.out.2 x),rfl⟩,HB.out⟩
  · go_wp2_with fail
    go_ret
    exact⟨.inl ⟨by first|exact Ht.out.1 rfl|exact Ht.out.1 trivial,rfl⟩,HB.out⟩
theorem yCheck7 (yb:Nat)(w:World):
    Calls prog 110 #[.pointer (some ⟨yb,0,none⟩),.agg #[.int .i64 7,.int .i64 0,.slice none 0 0,.int .i64 0,.bool false,.int .i64 0]] w λe w'=>e=.returned (.int .i64 0)/\Below w.heap.size w w':=by
  go_enter func110,ntmps110
  go_wp2_with fail
  go_ret
  exact⟨rfl,below_new _ _⟩
theorem yCheck6 (S:Nat->Prop)(yb mb n0:Nat)(c:Cfg)(s:Ts)(n:Int)(w:World)(hY:YardAt w S yb mb n0 c s)(ha:s.acked<=s.outs.length):
    Calls prog 110 #[.pointer (some ⟨yb,0,none⟩),.agg #[.int .i64 6,.int .i64 0,.slice none 0 0,.int .i64 0,.bool false,.int .i64 n]] w λe w'=>(((s.acked<s.outs.length/\n=(s.acked:Int)+1)/\e=.returned (.int .i64 0))\/((¬(s.acked<s.outs.length/\n=(s.acked:Int)+1))/\e=.returned (.int .i64 5)))/\Below w.heap.size w w':=by
  have hY0:YardAt (w.alloc (.cells #[.int .i64 6,.int .i64 0,.slice none 0 0,.int .i64 0,.bool false,.int .i64 n] 140)) S yb mb n0 c s:=hY.later (below_new _ _)
  by_cases h1:s.acked<s.outs.length
  · have hO:=yOldest_some S yb mb n0 c s _ hY0 h1
    generalize s.outs[s.acked]=o at hO
    have HP:Hid (s.acked<s.outs.length):=h1
    clear hY hY0 ha h1
    go_enter func110,ntmps110
    go_wp2_with fail
    go_fit hO
    rintro e w1 ⟨rfl,hb1⟩
    have HB:Hid (Below w.heap.size w w1):=(below_new _ _).trans (hb1.mono (by simp))
    have x5:w1.cell? ⟨w.heap.size,5,none⟩=some (.int .i64 n):=jcell_after hb1 (by simp)
    have x5o:∀o,(w1.alloc o).cell? ⟨w.heap.size,5,none⟩=some (.int .i64 n):=λo=>jcell_after (below_new w1 o) x5
    clear hb1 hO
    by_cases h2:n=(s.acked:Int)+1
    · subst h2
      go_wp2_with fail
      go_ret
      exact⟨.inl ⟨by first|exact⟨HP.out,rfl⟩|exact HP.out,rfl⟩,HB.out.trans ((below_new _ _).mono HB.out.size)⟩
    · have hne:(((s.acked:Int)+1)==n)=false:=by simp;omega
      go_wp2_with fail
      go_ret
      exact⟨.inr ⟨by first|exact(λx=>h2 x.2)|(simp;omega),rfl⟩,HB.out.trans ((below_new _ _).mono HB.out.size)⟩
  · have hO:=yOldest_none S yb mb n0 c s _ hY0 (by omega)
    have HP:Hid (¬s.acked<s.outs.length):=h1
    clear hY hY0 ha h1
    go_enter func110,ntmps110
    go_wp2_with fail
    go_fit hO
    rintro e w1 ⟨rfl,hb1⟩
    have HB:Hid (Below w.heap.size w w1):=(below_new _ _).trans (hb1.mono (by simp))
    clear hb1 hO
    go_wp2_with fail
    go_ret
    exact⟨.inr ⟨λx=>HP.out x.1,rfl⟩,HB.out.trans ((below_new _ _).mono HB.out.size)⟩
section
open Go.Lib
theorem addr_addO (g o j:Nat):(⟨g,o,none⟩:Addr).add j=⟨g,o+j,none⟩:=by
  unfold Addr.add
  by_cases h:j=0
  · subst h;simp
  · simp[h]
theorem one_cell {w:World}{bv:Nat}{u:Value}(h:w.cell? ⟨bv,0,none⟩=some u):∀j v,[u][j]? =some v->w.cell? ((⟨bv,0,none⟩:Addr).add j)=some v:=λj v hv=>by
  cases j with
  |zero=>
    simp only[List.getElem?_cons_zero,Option.some.injEq] at hv
    subst hv
    exact h
  |succ j=>simp at hv
theorem ins_none (a x:Option Addr)(cap bv:Nat)(w:World)(hS:Sl w 210 1 (.slice a 0 cap) 0 [])(hv:w.cell? ⟨bv,0,none⟩=some (.pointer x)):
    Calls prog 266 #[.slice a 0 cap,.int .i64 0,.slice (some ⟨bv,0,none⟩) 1 1] w λe w'=>∃v',e=.returned v'/\Sl w' 210 1 v' 1 [.pointer x]/\w.grownBy w' (Value.slice a 0 cap).ownBlock/\(v'.ownBlock=(Value.slice a 0 cap).ownBlock\/∃g,v'.ownBlock=some g/\w.heap.size<=g):=by
  obtain⟨i0,hi,hz0,hz1,hz2⟩:=info_parts info_ptr
  have HS:Hid (Sl w 210 1 (.slice a 0 cap) 0 []):=hS
  have HV:Hid (w.cell? ⟨bv,0,none⟩=some (.pointer x)):=hv
  clear hS hv
  go_enter func266,ntmps266
  go_wp2_with (at_builtin;refine wpList_append_sl _ rfl _ _ 195 rfl _ i0 _ 1 8 underlying195 hi hz0 hz1 hz2 rfl (by decide) (.slice a 0 cap) 0 [] rfl HS.out ⟨bv,0,none⟩ 1 1 [.pointer x] rfl rfl (one_cell HV.out) (by simp[Value.oneCell']) (by unfold maxLen;omega) (by omega) ?_;intro v3 w3 hown3 hg3 hloc3;obtain⟨a3,c3,rfl⟩:=hown3.form;have O3:Hid (Sl w3 210 1 (.slice a3 1 c3) 1 [.pointer x]):=hown3;have G3:Hid _:=hg3;have L3:Hid _:=hloc3;clear hown3 hg3 hloc3)
  go_ret
  exact⟨_,rfl,O3.out,G3.out,L3.out⟩
theorem ins_room (x:Option Addr)(g off n cap bv:Nat)(xs:List Value)(w:World)(hS:Sl w 210 1 (.slice (some ⟨g,off,none⟩) n cap) n xs)(hx:∀v∈xs,v.oneCell'=true)(hn:0<n)(hc:n+1<=cap)(hv:Bx w bv 210 #[.pointer x])(hne:bv≠g):
    Calls prog 266 #[.slice (some ⟨g,off,none⟩) n cap,.int .i64 0,.slice (some ⟨bv,0,none⟩) 1 1] w λe w'=>e=.returned (.slice (some ⟨g,off,none⟩) (n+1) cap)/\Sl w' 210 1 (.slice (some ⟨g,off,none⟩) (n+1) cap) (n+1) (.pointer x::xs)/\w.grownBy w' (some g):=by
  obtain⟨cur,hg,h1,h2,h3,h4⟩:=hS.row
  have hxl:xs.length=n:=by simpa using hS.1
  unfold maxLen at h2
  have HX:Hid (∀v∈xs,v.oneCell'=true):=hx
  have HG:Hid (w.heap[g]? =some (.cells cur 210 (0,0))):=hg
  have HV:Hid (Bx w bv 210 #[.pointer x]):=hv
  have H4:Hid (∀j u,xs[j]? =some u->cur[off+j]? =some u):=h4
  have H3:Hid (off+cap*1<=cur.size):=h3
  have HSZ:Hid (((prog.info? 210).map (·.size))=some 1):=by
    show _=_
    kernel_rfl
  have hov:(Extern.SlicesOverlaps.overlaps #[195,195] #[4] #[.slice (some ⟨bv,0,none⟩) 1 1,.slice (some ⟨g,off+1,none⟩) n (cap-1)]).run prog w=.ok (.bool false) w:=by
    refine run_overlaps_apart (P:=prog) w 195 4 210 underlying195 1 (λW=>Tryz.sizeOf210 W) ⟨bv,0,none⟩ ⟨g,off+1,none⟩ 1 1 n (cap-1) hne 210 210 1 cur.size ?_ ?_ (by omega) (hv.fr 0) (hv.fr 1)
    · unfold Bx at hv
      simp[World.shape?,hv]
    · simp[World.shape?,hg]
  have q2:¬((cap:Int)<(n:Int)+1):=by omega
  have w1:IntKind.i64.wrap 1=1:=wrap_i64 (by omega) (by omega)
  have t1:(1:Int)<=(n:Int)+1:=by omega
  have t2:¬cap=1:=by omega
  have t0:(0:Int)<=(n:Int)+1:=by omega
  have HL:Hid (xs.length=Nat.min (n+1) n):=by
    show _=_
    rw[hxl];exact(Nat.min_eq_right (by omega)).symm
  have HF:Hid (off+1+xs.length<=cur.size):=by
    have:=H3.out
    show _<=_
    omega
  have HM:Hid ([Value.pointer x].length=Nat.min 1 (n+1)):=by
    show 1=_
    exact(Nat.min_eq_left (by omega)).symm
  have HC:Hid (∀j v,xs[j]? =some v->w.drew.cell? ((⟨g,off,none⟩:Addr).add j)=some v):=λj v hj=>by
    rw[addr_addO,cell_drew]
    have:=H4.out j v hj
    simp[World.cell?,HG.out,this]
  have HXL:Hid (xs.length=n):=hxl
  clear hS hx hg hv h4 h3 hxl
  go_enter func266,ntmps266
  go_wp2_with fail
  rw[run_callFunc_extern func275 (by kernel_rfl) (by kernel_rfl) (by kernel_rfl) (e:=Extern.SlicesOverlaps.overlaps #[195,195] #[4]) (by kernel_rfl),hov]
  simp only[Result.andThen]
  rw[Oper.upon_value]
  clear hov
  go_wp2_with fail
  go_region_law ((first|(refine step_copy_over rfl _ _ 195 rfl 210 underlying195 HSZ.out g (off+1) n (cap-1) ⟨g,off,none⟩ (n+1) cap xs cur (by simp[Act.eval,Act.put]) (by simp[Act.eval,Act.put]) HL.out HG.out HF.out HC.out HX.out ?_;intro w3 cur3 hO3;have O3:Hid (Over w.drew w3 g 210 (off+1) xs cur cur3):=hO3;clear hO3)|fail))
  all_goals
    have HV3:Hid (w3.cell? ⟨bv,0,none⟩=some (.pointer x)):=((show Bx w.drew bv 210 #[.pointer x] from HV.out).grown O3.out.grown (by simpa using hne)).cell (i:=0) rfl
    have HF3:Hid (off+[Value.pointer x].length<=cur3.size):=by
      have h1:=HF.out
      have h2:=O3.out.size
      show off+1<=_
      omega
    go_wp2_with (refine wpList_copy_over _ rfl _ _ 195 rfl 210 underlying195 HSZ.out g off (n+1) cap ⟨bv,0,none⟩ 1 1 [.pointer x] cur3 (by simp[Act.eval]) (by simp[Act.eval]) HM.out O3.out.row HF3.out (one_cell HV3.out) (by simp[Value.oneCell']) ?_;intro w4 cur4 hO4;have O4:Hid (Over w3 w4 g 210 off [.pointer x] cur3 cur4):=hO4;clear hO4)
    go_ret
    refine⟨rfl,⟨by rw[List.length_cons,HXL.out,Nat.mul_one],.inr ⟨g,off,cap,cur4,rfl,O4.out.row,hc,by unfold maxLen;omega,?_,λj u hu=>?_⟩⟩,?_⟩
    · have h1:=O4.out.size
      have h2:=O3.out.size
      have h3:=H3.out
      omega
    · cases j with
      |zero=>exact O4.out.inn 0 u hu
      |succ j=>
        rw[List.getElem?_cons_succ] at hu
        rw[O4.out.out (off+(j+1)) (.inr (by simp)),show off+(j+1)=off+1+j by omega]
        exact O3.out.inn j u hu
    · exact(⟨O3.out.grown.os,O3.out.grown.tape,O3.out.grown.output,O3.out.grown.size,O3.out.grown.block⟩:w.grownBy w3 (some g)).trans O4.out.grown
theorem ins_grow (x:Option Addr)(g off n cap bv:Nat)(xs:List Value)(w:World)(hS:Sl w 210 1 (.slice (some ⟨g,off,none⟩) n cap) n xs)(hx:∀v∈xs,v.oneCell'=true)(hn:0<n)(hc:cap<n+1)(h8:n<1048576000)(hv:Bx w bv 210 #[.pointer x]):
    Calls prog 266 #[.slice (some ⟨g,off,none⟩) n cap,.int .i64 0,.slice (some ⟨bv,0,none⟩) 1 1] w λe w'=>∃v',e=.returned v'/\Sl w' 210 1 v' (n+1) (.pointer x::xs)/\Below w.heap.size w w'/\∃b,v'.ownBlock=some b/\w.heap.size<=b:=by
  obtain⟨i0,hi,hz0,hz1,hz2⟩:=info_parts info_ptr
  have hxl:xs.length=n:=by simpa using hS.1
  have HX:Hid (∀v∈xs,v.oneCell'=true):=hx
  have HS:Hid (Sl w 210 1 (.slice (some ⟨g,off,none⟩) n cap) n xs):=hS
  have HV:Hid (Bx w bv 210 #[.pointer x]):=hv
  have HSZ:Hid (((prog.info? 210).map (·.size))=some 1):=by
    show _=_
    kernel_rfl
  have hrun:=λty=>run_append_zeros_over (P:=prog) w 195 3 ty 210 i0 (.pointer none) .i64 .i64 underlying195 underlying3 hi hz0 (some ⟨g,off,none⟩) cap (n+1) hc (by omega) (by omega) (by rw[hz2];omega)
  have hge:=grownCap_ge w (n+1) cap 210
  have hle:=grownCap_le_maxLen w (n+1) cap 210 (by unfold maxLen;omega)
  have hZ:(Builtin.zeroCells (Value.pointer none).cells (n+1)++Builtin.zeroCells (Value.pointer none).cells (grownCap w (n+1) cap 210-(n+1))).size=grownCap w (n+1) cap 210:=by
    simp[size_zeroCells,Value.cells];omega
  generalize grownCap w (n+1) cap 210=C at *
  generalize Builtin.zeroCells (Value.pointer none).cells (n+1)++Builtin.zeroCells (Value.pointer none).cells (C-(n+1))=Z at *
  have HB1:Hid (Below w.heap.size w (w.alloc (.cells Z 210)).drew):=below_new_drew _ _
  have HG1:Hid ((w.alloc (.cells Z 210)).drew.heap[w.heap.size]? =some (.cells Z 210 (0,0))):=Bx.new w Z 210
  unfold maxLen at hle
  have HXL:Hid (xs.length=n):=hxl
  have HZ:Hid (Z.size=C):=hZ
  have HR:Hid (∀ty,(Builtin.append_ #[195,3] ty #[.slice (some ⟨g,off,none⟩) 0 cap,.int .i64 ((n+1:Nat):Int)]).run prog w=.ok (.slice (some ⟨w.heap.size,0,none⟩) (n+1) C) (w.drew.alloc (.cells Z 210))):=hrun
  have q2:(cap:Int)<(n:Int)+1:=by omega
  have w1:IntKind.i64.wrap 1=1:=wrap_i64 (by omega) (by omega)
  have t1:(1:Int)<=(n:Int)+1:=by omega
  have t0:(0:Int)<=(n:Int):=by omega
  have t2:¬C=1:=by omega
  have HM:Hid ([Value.pointer x].length=Nat.min 1 (n+1)):=by
    show 1=_
    exact(Nat.min_eq_left (by omega)).symm
  have HL:Hid (xs.length=Nat.min n n):=by
    show _=_
    rw[hxl];exact(Nat.min_self n).symm
  clear hS hx hv hrun hxl hZ
  go_enter func266,ntmps266
  go_upto_region 10 with (at_builtin;refine wpList_append_run _ rfl _ _ 195 3 rfl (.slice (some ⟨g,off,none⟩) 0 cap) (.int .i64 ((n+1:Nat):Int)) (by simp[Act.eval]) (by simp[Act.eval]) _ _ (HR.out _) ?_)
  clear HR
  generalize (w.alloc (.cells Z 210)).drew=W1 at *
  have HV1:Hid (W1.cell? ⟨bv,0,none⟩=some (.pointer x)):=Bx.cell (i:=0) ((HB1.out.block bv HV.out.lt).trans HV.out) rfl
  have HF1:Hid (0+[Value.pointer x].length<=Z.size):=by
    have:=HZ.out
    show 0+1<=_
    omega
  go_wp2_with (refine wpList_copy_over _ rfl _ _ 195 rfl 210 underlying195 HSZ.out w.heap.size 0 (n+1) C ⟨bv,0,none⟩ 1 1 [.pointer x] Z (by simp[Act.eval]) (by simp[Act.eval]) HM.out HG1.out HF1.out (one_cell HV1.out) (by simp[Value.oneCell']) ?_;intro w3 cur3 hO3;have O3:Hid (Over W1 w3 w.heap.size 210 0 [.pointer x] Z cur3):=hO3;clear hO3)
  have HB3:Hid (Below w.heap.size w w3):=HB1.out.grown O3.out.grown HB1.out.size (by intro k hk;cases hk;exact Nat.le_refl _)
  have HF3:Hid (1+xs.length<=cur3.size):=by
    have h1:=O3.out.size
    have h2:=HZ.out
    have h3:=HXL.out
    show _<=_
    omega
  have HC:Hid (∀j v,xs[j]? =some v->w3.drew.cell? ((⟨g,off,none⟩:Addr).add j)=some v):=λj v hj=>by
    rw[addr_addO,cell_drew]
    exact(HS.out.later HB3.out).cell hj
  go_region_law ((first|(refine step_copy_over rfl _ _ 195 rfl 210 underlying195 HSZ.out w.heap.size 1 n (C-1) ⟨g,off,none⟩ n cap xs cur3 (by simp[Act.eval,Act.put]) (by simp[Act.eval,Act.put]) HL.out O3.out.row HF3.out HC.out HX.out ?_;intro w4 cur4 hO4;have O4:Hid (Over w3.drew w4 w.heap.size 210 1 xs cur3 cur4):=hO4;clear hO4)|fail))
  all_goals
    go_wp2_with fail
    go_ret
    refine⟨_,rfl,⟨by rw[List.length_cons,HXL.out,Nat.mul_one],.inr ⟨w.heap.size,0,C,cur4,rfl,O4.out.row,hge,by unfold maxLen;omega,?_,λj u hu=>?_⟩⟩,?_,w.heap.size,rfl,Nat.le_refl _⟩
    · have h1:=O4.out.size
      have h2:=O3.out.size
      have h3:=HZ.out
      omega
    · cases j with
      |zero=>
        rw[O4.out.out (0+0) (.inl (by omega))]
        exact O3.out.inn 0 u hu
      |succ j=>
        rw[List.getElem?_cons_succ] at hu
        rw[show 0+(j+1)=1+j by omega]
        exact O4.out.inn j u hu
    · exact HB3.out.grown (⟨O4.out.grown.os,O4.out.grown.tape,O4.out.grown.output,O4.out.grown.size,O4.out.grown.block⟩:w3.grownBy w4 (some w.heap.size)) HB3.out.size (by intro k hk;cases hk;exact Nat.le_refl _)
end
section
open Go.Lib
theorem ins_any (x:Option Addr)(v:Value)(n bv:Nat)(xs:List Value)(w:World)(hS:Sl w 210 1 v n xs)(hx:∀u∈xs,u.oneCell'=true)(h8:n<1048576000)(hv:Bx w bv 210 #[.pointer x])(hne:v.ownBlock≠some bv):
    Calls prog 266 #[v,.int .i64 0,.slice (some ⟨bv,0,none⟩) 1 1] w λe w'=>∃v',e=.returned v'/\Sl w' 210 1 v' (n+1) (.pointer x::xs)/\(v'.ownBlock=v.ownBlock\/∃g,v'.ownBlock=some g/\w.heap.size<=g)/\Only w w' (λk=>v.ownBlock=some k):=by
  by_cases h0:n=0
  · subst h0
    obtain⟨a,cap,rfl⟩:=hS.form
    obtain rfl:xs=[]:=List.eq_nil_of_length_eq_zero (by simpa using hS.1)
    refine(ins_none a x cap bv w hS (hv.cell (i:=0) rfl)).mono ?_
    rintro e w' ⟨v',rfl,h1,h2,h3⟩
    exact⟨v',rfl,h1,h3,Only.of_grown h2 λk hk=>hk⟩
  · obtain⟨g,off,cap,rfl,h1,h2⟩:=hS.addr (by omega)
    by_cases hc:n+1<=cap
    · refine(ins_room x g off n cap bv xs w hS hx (by omega) hc hv (λe=>hne (by rw[e];rfl))).mono ?_
      rintro e w' ⟨rfl,h3,h4⟩
      exact⟨_,rfl,h3,.inl rfl,Only.of_grown h4 λk hk=>hk⟩
    · refine(ins_grow x g off n cap bv xs w hS hx (by omega) (by omega) h8 hv).mono ?_
      rintro e w' ⟨v',rfl,h3,h4,b,h5,h6⟩
      exact⟨v',rfl,h3,.inr ⟨b,h5,h6⟩,Only.of_below h4⟩
theorem segAddFirst (yb i n:Nat)(t:TypeId)(v:Value)(x:Option Addr)(cs:Array Value)(xs:List Value)(w:World)(hB:Bx w yb t cs)(hv:cs[i]? =some v)(hS:Sl w 210 1 v n xs)(hx:∀u∈xs,u.oneCell'=true)(hne:v.ownBlock≠some yb)(hn:n<1048576000):
    Calls prog 245 #[.pointer (some ⟨yb,i,none⟩),.pointer x] w λe w'=>e=.returned (.tuple #[])/\∃v',Bx w' yb t (cs.setIfInBounds i v')/\Sl w' 210 1 v' (n+1) (.pointer x::xs)/\(v'.ownBlock=v.ownBlock\/∃g,v'.ownBlock=some g/\w.heap.size<=g)/\Only w w' (λk=>k=yb\/v.ownBlock=some k):=by
  have hI:=ins_any x v n w.heap.size xs (w.alloc (.cells #[.pointer x] 210)) (hS.mk _) hx hn (Bx.new _ _ _) (λe=>by have:=hS.lt e;omega)
  obtain⟨oa,ocap,rfl⟩:=hS.form
  have HB:Hid (Bx w yb t cs):=hB
  have hlt:=hB.lt
  have c0:=hB.cell hv
  clear hB hS hx
  go_enter func245,ntmps245
  go_wp2_with fail
  go_fit hI
  rintro e w3 ⟨v3,rfl,h1,h2,h3⟩
  obtain⟨a3,c3,rfl⟩:=h1.form
  have HB3:Hid (Bx w3 yb t cs):=(h3.block yb (by simp;omega) hne).trans (HB.out.mk _)
  have d0:=HB3.out.cell hv
  have f0:=HB3.out.fr i
  have H1:Hid (Sl w3 210 1 (.slice a3 (n+1) c3) (n+1) (.pointer x::xs)):=h1
  have H2:Hid ((Value.slice a3 (n+1) c3).ownBlock=(Value.slice oa n ocap).ownBlock\/∃g,(Value.slice a3 (n+1) c3).ownBlock=some g/\w.heap.size<=g):=h2.imp (λh=>h) (λ⟨g,h,hg⟩=>⟨g,h,by simp at hg;omega⟩)
  have H3:Hid (Only w w3 (λk=>(Value.slice oa n ocap).ownBlock=some k)):=(Only.of_below (below_new w _)).trans h3 λk hk=>.inl hk
  clear h1 h2 h3 hI
  go_wp2_with fail
  have nnb:(Value.slice a3 (n+1) c3).ownBlock≠some yb:=by
    rcases H2.out with h|⟨g,h,hg⟩
    · rw[h];exact hne
    · rw[h];intro e;cases e;omega
  refine bodyPost_end (v:=.tuple #[]) (results_none (by kernel_rfl) _ _ _) rfl ⟨rfl,_,HB3.out.set i _,H1.out.grown (grown_set _ _ _ _) (λg hg e=>nnb (by rw[hg];exact e.symm)),H2.out,?_⟩
  exact(Only.mono H3.out λk hk=>.inr hk).trans (Only.of_grown (grown_set _ _ _ _) (S:=λk=>k=yb) λk h=>by cases h;rfl) λk h=>.inl (.inl h)
end
structure YardZ (w:World)(S:Nat->Prop)(yb mb n0:Nat)(c:Cfg)(s:Ts)(q:List Pw)(sb:Nat)(qv ov:Value)(x:Xt)(tl:List Tp)(zs:List (Nat×Sm)):Prop where
  is:YardIs w S yb mb n0 c s q sb qv ov x
  rest:RestIs w S mb n0 s x tl zs
theorem YardIs.z {w:World}{S:Nat->Prop}{yb mb n0:Nat}{c:Cfg}{s:Ts}{q:List Pw}{sb:Nat}{qv ov:Value}{x:Xt}(h:YardIs w S yb mb n0 c s q sb qv ov x):∃tl zs,YardZ w S yb mb n0 c s q sb qv ov x tl zs:=by
  obtain⟨tl,zs,hr⟩:=h.rest
  exact⟨tl,zs,h,hr⟩
theorem YardZ.mk' {w:World}{S:Nat->Prop}{yb mb n0:Nat}{c:Cfg}{s:Ts}{q:List Pw}{sb:Nat}{qv ov:Value}{x:Xt}{tl:List Tp}{zs:List (Nat×Sm)}(hr:RestIs w S mb n0 s x tl zs)(qs:(q.map Prod.fst).Perm s.queue)(box:Bx w yb 201 (yardCells c x s.begun s.now qv sb s.outs.length ov))(que:QIs w S c.age q qv)(sub:Subm w sb s.ids)(outs:OIs w S s.outs s.acked ov)(fy:S yb)(fs:S sb)(nt:sb≠x.tip):YardZ w S yb mb n0 c s q sb qv ov x tl zs:=
  ⟨⟨qs,box,que,sub,outs,fy,fs,⟨tl,zs,hr⟩,nt⟩,hr⟩
theorem YardZ.later {w w':World}{S:Nat->Prop}{yb mb n0:Nat}{c:Cfg}{s:Ts}{q:List Pw}{sb:Nat}{qv ov:Value}{x:Xt}{tl:List Tp}{zs:List (Nat×Sm)}(h:YardZ w S yb mb n0 c s q sb qv ov x tl zs)(hb:Below w.heap.size w w'):YardZ w' S yb mb n0 c s q sb qv ov x tl zs:=
  ⟨h.is.later hb,h.rest.kept hb.size (λk hk _=>hb.block k hk) (λ_ h=>h) h.rest.nm rfl rfl rfl (Nat.le_refl _)⟩
theorem YardZ.mono {w:World}{S T:Nat->Prop}{yb mb n0:Nat}{c:Cfg}{s:Ts}{q:List Pw}{sb:Nat}{qv ov:Value}{x:Xt}{tl:List Tp}{zs:List (Nat×Sm)}(h:YardZ w S yb mb n0 c s q sb qv ov x tl zs)(hST:∀k,S k->T k)(hn:¬T mb):YardZ w T yb mb n0 c s q sb qv ov x tl zs:=
  ⟨h.is.mono hST hn,h.rest.kept (Nat.le_refl _) (λ_ _ _=>rfl) hST hn rfl rfl rfl (Nat.le_refl _)⟩
theorem tEndZ {S:Nat->Prop}{yb mb n0:Nat}(id kind:Nat){c:Cfg}{s:Ts}{w:World}{q:List Pw}{sb:Nat}{qv ov:Value}{x:Xt}{tl:List Tp}{zs:List (Nat×Sm)}(h:YardZ w S yb mb n0 c s q sb qv ov x tl zs)(ho:s.outs.length<1048576000)(ha:s.acked<=s.outs.length):
    Calls prog 170 #[.pointer (some ⟨yb,0,none⟩),.int .i64 id,.int .i64 kind] w λe w'=>e=.returned (.tuple #[])/\(∃ov',YardZ w' (Plus S w) yb mb n0 c {s with outs:=s.outs++[(id,kind)]} q sb qv ov' x tl zs)/\OnlyT w w' S [201,99]:=by
  refine(tEnd id kind h.is ho ha).mono ?_
  rintro e w' ⟨rfl,⟨ov',hY⟩,hO⟩
  exact⟨rfl,⟨ov',hY,h.rest.keptT hO.k (Plus.old w) h.is.np rfl rfl rfl (Nat.le_refl _) (by unfold NoRest NoSeg;decide) (hO.map h.rest.map (by decide))⟩,hO⟩
theorem set11 (c:Cfg)(x:Xt)(b t:Nat)(qv:Value)(sb n:Nat)(ov tv':Value):(yardCells c x b t qv sb n ov).setIfInBounds 11 tv'=yardCells c {x with tv:=tv'} b t qv sb n ov:=rfl
theorem ptr_one (zs:List (Nat×Sm)):∀u∈zs.map (λz=>ptr z.1),u.oneCell'=true:=λu hu=>by
  obtain⟨z,_,rfl⟩:=List.mem_map.1 hu
  rfl
theorem tDropZ {S:Nat->Prop}{yb mb n0:Nat}{c:Cfg}{s:Ts}{w:World}{q:List Pw}{sb:Nat}{qv ov:Value}{x:Xt}{tl:List Tp}{z:Nat×Sm}{zs:List (Nat×Sm)}(h:YardZ w S yb mb n0 c s q sb qv ov x tl (z::zs)):
    Calls prog 244 #[.pointer (some ⟨yb,11,none⟩)] w λe w'=>e=.returned (.tuple #[])/\(∃tv',YardZ w' S yb mb n0 c {s with segs:=zs.map Prod.snd} q sb qv ov {x with tv:=tv'} tl zs)/\OnlyT w w' S [201,210]:=by
  have hrow:=h.rest.train.row
  rw[List.length_cons,List.map_cons] at hrow
  refine(segDrop yb 11 zs.length 201 x.tv _ _ _ w h.is.box rfl hrow (hrow.ne h.is.box (by decide))).mono ?_
  rintro e w' ⟨rfl,tv',h1,h2,h3,h4⟩
  have O:OnlyT w w' S [201,210]:=OnlyT.mk h4 λk hk e=>by
    rcases e with rfl|e
    · exact⟨h.is.fy,201,by simp,h.is.box.ty⟩
    · exact⟨h.rest.train.own k e,210,by simp,hrow.ty e⟩
  rw[set11] at h1
  have hi:=λ(k:Nat) (hk:S k)=>hk
  refine⟨rfl,⟨tv',YardZ.mk' ⟨h.rest.nm,Nat.lt_of_lt_of_le h.rest.ml O.size,h.rest.tip,O.map h.rest.map (by decide),h.rest.main.keptT O.k hi (by decide) (by decide),rfl,h2,?_,?_,λy hy=>(h.rest.train.segs y (List.mem_cons_of_mem _ hy)).keptT O.k hi (Nat.le_refl _) (by decide) (by unfold NoSeg;decide)⟩ h.is.qs h1 (h.is.que.keptT O.k hi (by decide) (by decide)) (O.sub h.is.sub (by decide)) (h.is.outs.keptT O.k hi (by decide)) h.is.fy h.is.fs h.is.nt⟩,O⟩
  · intro g hg
    rw[show ({x with tv:=tv'}:Xt).tv=tv' from rfl,h3] at hg
    exact h.rest.train.own g hg
  · have:=h.rest.train.nd
    rw[List.map_cons,List.nodup_cons] at this
    exact this.2
theorem tAddZ {S:Nat->Prop}{yb mb n0:Nat}{c:Cfg}{s:Ts}{w:World}{q:List Pw}{sb:Nat}{qv ov:Value}{x:Xt}{tl:List Tp}{zs:List (Nat×Sm)}(h:YardZ w S yb mb n0 c s q sb qv ov x tl zs)(z:Nat×Sm)(hz:SegAt w S (s.top n0) z)(hn:z.1∉zs.map Prod.fst)(hl:zs.length<1048576000):
    Calls prog 245 #[.pointer (some ⟨yb,11,none⟩),.pointer (some ⟨z.1,0,none⟩)] w λe w'=>e=.returned (.tuple #[])/\(∃tv',YardZ w' (Plus S w) yb mb n0 c {s with segs:=z.2::s.segs} q sb qv ov {x with tv:=tv'} tl (z::zs))/\OnlyT w w' S [201,210]:=by
  have hrow:=h.rest.train.row
  refine(segAddFirst yb 11 zs.length 201 x.tv (some ⟨z.1,0,none⟩) _ _ w h.is.box rfl hrow (ptr_one zs) (hrow.ne h.is.box (by decide)) hl).mono ?_
  rintro e w' ⟨rfl,tv',h1,h2,h3,h4⟩
  have O:OnlyT w w' S [201,210]:=OnlyT.mk h4 λk hk e=>by
    rcases e with rfl|e
    · exact⟨h.is.fy,201,by simp,h.is.box.ty⟩
    · exact⟨h.rest.train.own k e,210,by simp,hrow.ty e⟩
  rw[set11] at h1
  have hp:=Plus.old (S:=S) w
  refine⟨rfl,⟨tv',YardZ.mk' ⟨h.is.np,Nat.lt_of_lt_of_le h.rest.ml O.size,h.rest.tip.imp (λe=>e) .inl,O.map h.rest.map (by decide),h.rest.main.keptT O.k hp (by decide) (by decide),?_,?_,?_,?_,λy hy=>?_⟩ h.is.qs h1 (h.is.que.keptT O.k hp (by decide) (by decide)) (O.sub h.is.sub (by decide)) (h.is.outs.keptT O.k hp (by decide)) (.inl h.is.fy) (.inl h.is.fs) h.is.nt⟩,O⟩
  · rw[List.map_cons,h.rest.train.snd]
  · rw[List.length_cons,List.map_cons];exact h2
  · intro g hg
    rcases h3 with e|⟨g',e,hg'⟩
    · rw[show ({x with tv:=tv'}:Xt).tv=tv' from rfl,e] at hg;exact .inl (h.rest.train.own g hg)
    · rw[show ({x with tv:=tv'}:Xt).tv=tv' from rfl,e] at hg;cases hg;exact .inr hg'
  · rw[List.map_cons,List.nodup_cons];exact⟨hn,h.rest.train.nd⟩
  · rcases List.mem_cons.1 hy with rfl|hy
    · exact hz.keptT O.k hp (Nat.le_refl _) (by decide) (by unfold NoSeg;decide)
    · exact(h.rest.train.segs y hy).keptT O.k hp (Nat.le_refl _) (by decide) (by unfold NoSeg;decide)
theorem ChsIs.cut {w:World}{S:Nat->Prop}{a:Option Addr}{n cap:Nat}{l:List Cg}{cl:List Cw}(h:ChsIs w S (.slice a n cap) l cl){k:Nat}(hk:k<=l.length):ChsIs w S (.slice a k cap) (l.take k) (cl.take k):=by
  have hl:cl.length=l.length:=by rw[<-h.fst,List.length_map]
  obtain⟨a',c',e⟩:=h.row.form
  cases e
  refine⟨by rw[<-h.fst,List.map_take],?_,λg hg=>h.own g (by cases a<;>first|exact hg|(simp[Value.ownBlock] at hg)),λy hy=>h.eds y (List.mem_of_mem_take hy)⟩
  have:=h.row.cut (k:=k) (by omega)
  rw[List.length_take,Nat.min_eq_left (by omega)]
  have e2:(cl.take k).flatMap cC=(cl.flatMap cC).take (k*2):=by
    conv=>rhs;rw[<-List.take_append_drop k cl,List.flatMap_append]
    rw[List.take_left' (by rw[flat_len cC 2 (λ_=>rfl),List.length_take,Nat.min_eq_left (by omega)])]
  rw[e2];exact this
theorem ChsIs.tail {w:World}{S:Nat->Prop}{g off n cap:Nat}{l:List Cg}{cl:List Cw}(h:ChsIs w S (.slice (some ⟨g,off,none⟩) n cap) l cl){k:Nat}(hk:k<=l.length){off':Nat}(ho:off'=off+k*2\/cap-k=0):ChsIs w S (.slice (some ⟨g,if cap-k=0 then off else off',none⟩) (n-k) (cap-k)) (l.drop k) (cl.drop k):=by
  have hl:cl.length=l.length:=by rw[<-h.fst,List.length_map]
  obtain⟨a',c',e⟩:=h.row.form
  cases e
  refine⟨by rw[<-h.fst,List.map_drop],?_,λg' hg=>h.own g' hg,λy hy=>h.eds y (List.mem_of_mem_drop hy)⟩
  have:=h.row.tail (k:=k) (by omega) ho
  rw[List.length_drop]
  have e2:(cl.drop k).flatMap cC=(cl.flatMap cC).drop (k*2):=by
    conv=>rhs;rw[<-List.take_append_drop k cl,List.flatMap_append]
    rw[List.drop_left' (by rw[flat_len cC 2 (λ_=>rfl),List.length_take,Nat.min_eq_left (by omega)])]
  rw[e2];exact this
theorem seg_new {w:World}{S:Nat->Prop}{N:Nat}{cv:Value}{l:List Cg}{cl:List Cw}(h:ChsIs w S cv l cl):SegAt (w.alloc (.cells (segCells cv 0 0 (.pointer none)) 240)) (Plus S w) N (w.heap.size,Sm.new l):=
  ⟨cv,.pointer none,cl,Bx.new _ _ _,h.keptT (OnlyT.below (S:=S) (ts:=[]) (below_new w _)).k (Plus.old w) (by decide) (by decide),rfl,.inr (Nat.le_refl _)⟩
end Go.Proofs.YtgamgomepdfgdaaGreat
