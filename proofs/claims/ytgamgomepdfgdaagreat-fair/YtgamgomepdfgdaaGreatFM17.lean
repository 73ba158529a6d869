import Derived.RangeFuncNested
import Derived.RangeFuncWrites
import Derived.RangeFuncBound
import Derived.RangeFuncCalls
import Derived.RangeFuncLeaves
import Derived.Shelf.Abstract
import Derived.Shelf.RegionOpen
import Derived.OwnWalkIn
import Derived.TacticsInMore
import Derived.LoopNIn
import Derived.LoopIn
import Derived.Test.YtgamgomepdfgdaaGreatFM16
import Derived.Test.YtgamgomepdfgdaaGreatFM15
set_option maxRecDepth 100000
set_option maxHeartbeats 8000000
namespace Go.Proofs.YtgamgomepdfgdaaGreat
open Go.RowKit Go.Proofs.Tryz
section
open Go.Shelf
def Tryz.sortJ_ren:Go.Shelf.Ren:=⟨fun|6=>151|15=>191|14=>190|28=>232|29=>233|20=>224|21=>225|22=>226|23=>227|24=>228|25=>229|26=>230|27=>231|46=>257|47=>258|48=>259|49=>260|50=>261|57=>271|n=>n,fun|22=>120|24=>124|25=>244|3=>3|39=>276|0=>0|53=>250|55=>256|4=>4|46=>305|45=>304|50=>309|5=>5|9=>9|66=>323|70=>327|76=>335|77=>336|n=>n,fun|n=>n⟩
theorem Tryz.sortJ:Go.Proofs.SlLaysF0.n6 prog Tryz.sortJ_ren:={
  mixed:=by kernel_rfl
  f6:=⟨Tryz.f151.name,by decide,func151.trans (congrArg some (by kernel_rfl))⟩
  f14:=⟨Tryz.f190.name,by decide,func190.trans (congrArg some (by kernel_rfl))⟩
  f15:=func191.trans (congrArg some (by kernel_rfl))
  f20:=⟨Tryz.f224.name,by decide,func224.trans (congrArg some (by kernel_rfl))⟩
  f21:=⟨Tryz.f225.name,by decide,func225.trans (congrArg some (by kernel_rfl))⟩
  f22:=⟨Tryz.f226.name,by decide,func226.trans (congrArg some (by kernel_rfl))⟩
  f23:=⟨Tryz.f227.name,by decide,func227.trans (congrArg some (by kernel_rfl))⟩
  f24:=⟨Tryz.f228.name,by decide,func228.trans (congrArg some (by kernel_rfl))⟩
  f25:=⟨Tryz.f229.name,by decide,func229.trans (congrArg some (by kernel_rfl))⟩
  f26:=⟨Tryz.f230.name,by decide,func230.trans (congrArg some (by kernel_rfl))⟩
  f27:=⟨Tryz.f231.name,by decide,func231.trans (congrArg some (by kernel_rfl))⟩
  f28:=func232.trans (congrArg some (by kernel_rfl))
  f29:=func233.trans (congrArg some (by kernel_rfl))
  f46:=⟨Tryz.f257.name,by decide,func257.trans (congrArg some (by kernel_rfl))⟩
  f47:=func258.trans (congrArg some (by kernel_rfl))
  f48:=func259.trans (congrArg some (by kernel_rfl))
  f49:=⟨Tryz.f260.name,by decide,func260.trans (congrArg some (by kernel_rfl))⟩
  f50:=⟨Tryz.f261.name,by decide,func261.trans (congrArg some (by kernel_rfl))⟩
  f57:=⟨Tryz.f271.name,by decide,func271.trans (congrArg some (by kernel_rfl))⟩
  t0:=underlying0
  a0:=Tryz.isAgg0
  z0:=Tryz.sizeOf0
  v0:=Tryz.zeroValue0
  t3:=underlying3
  a3:=Tryz.isAgg3
  z3:=Tryz.sizeOf3
  v3:=Tryz.zeroValue3
  t4:=underlying4
  a4:=Tryz.isAgg4
  z4:=Tryz.sizeOf4
  v4:=Tryz.zeroValue4
  t5:=underlying5
  a5:=Tryz.isAgg5
  z5:=Tryz.sizeOf5
  v5:=Tryz.zeroValue5
  t9:=underlying9
  a9:=Tryz.isAgg9
  z9:=Tryz.sizeOf9
  v9:=Tryz.zeroValue9
  t22:=underlying120
  a22:=Tryz.isAgg120
  z22:=Tryz.sizeOf120
  v22:=Tryz.zeroValue120
  t25:=underlying244
  a25:=Tryz.isAgg244
  z25:=Tryz.sizeOf244
  v25:=Tryz.zeroValue244
  t39:=underlying276
  a39:=Tryz.isAgg276
  z39:=Tryz.sizeOf276
  v39:=Tryz.zeroValue276
  t45:=underlying304
  a45:=Tryz.isAgg304
  z45:=Tryz.sizeOf304
  v45:=Tryz.zeroValue304
  t46:=underlying305
  a46:=Tryz.isAgg305
  z46:=Tryz.sizeOf305
  v46:=Tryz.zeroValue305
  t50:=underlying309
  a50:=Tryz.isAgg309
  z50:=Tryz.sizeOf309
  v50:=Tryz.zeroValue309
  t53:=underlying250
  a53:=Tryz.isAgg250
  z53:=Tryz.sizeOf250
  v53:=Tryz.zeroValue250
  t55:=underlying256
  a55:=Tryz.isAgg256
  z55:=Tryz.sizeOf256
  v55:=Tryz.zeroValue256
  t66:=underlying323
  a66:=Tryz.isAgg323
  z66:=Tryz.sizeOf323
  v66:=Tryz.zeroValue323
  t70:=underlying327
  a70:=Tryz.isAgg327
  z70:=Tryz.sizeOf327
  v70:=Tryz.zeroValue327
  t76:=underlying335
  a76:=Tryz.isAgg335
  z76:=Tryz.sizeOf335
  v76:=Tryz.zeroValue335
  t77:=underlying336
  a77:=Tryz.isAgg336
  z77:=Tryz.sizeOf336
  v77:=Tryz.zeroValue336}
end
theorem yOldest_some (S:Nat->Prop)(yb mb n0:Nat)(c:Cfg)(s:Ts)(w:World)(hY:YardAt w S yb mb n0 c s)(ha:s.acked<s.outs.length):
    Calls prog 123 #[.pointer (some ⟨yb,0,none⟩)] w λe w'=>e=.returned (.tuple #[.agg #[.int .i64 ((s.acked:Int)+1),.int .i64 (s.outs[s.acked]'ha).1,.int .i64 (s.outs[s.acked]'ha).2],.bool true])/\Below w.heap.size w w':=by
  obtain⟨q,sb,qv,ov,xt,h,hx⟩:=hY
  have hd:s.outs.drop s.acked=s.outs[s.acked]::s.outs.drop (s.acked+1):=List.drop_eq_getElem_cons ha
  have hS:=h.outs.row
  rw[hd,oc] at hS
  obtain⟨m,hm⟩:∃m,s.outs.length-s.acked=m+1:=⟨s.outs.length-s.acked-1,by omega⟩
  rw[hm] at hS
  have hF:=outFirst_some yb 15 m 201 _ _ _ ov _ _ (w.alloc (.cells #[.int .i64 0,.int .i64 0,.int .i64 0] 99)) (h.box.mk _) rfl (hS.mk _)
  generalize s.outs[s.acked]=o at *
  clear h hx hS hd hm
  go_enter func123,ntmps123
  go_wp2_with fail
  go_fit hF
  rintro e w1 ⟨rfl,hb1⟩
  have d0:w1.cell? ⟨w.heap.size,0,none⟩=some (.int .i64 0):=jcell_after hb1 (by simp)
  have d1:w1.cell? ⟨w.heap.size,1,none⟩=some (.int .i64 0):=jcell_after hb1 (by simp)
  have d2:w1.cell? ⟨w.heap.size,2,none⟩=some (.int .i64 0):=jcell_after hb1 (by simp)
  have fr:∀i,w1.frozen? ⟨w.heap.size,i,none⟩=false:=λi=>frozen_after hb1 (by simp) ((Bx.new w #[.int .i64 0,.int .i64 0,.int .i64 0] 99).fr i)
  have HB:Hid (Below w.heap.size w w1):=(below_new _ _).trans (hb1.mono (by simp))
  have B1:Hid (Bx w1 w.heap.size 99 #[.int .i64 0,.int .i64 0,.int .i64 0]):=(hb1.block _ (by simp)).trans (Bx.new w #[.int .i64 0,.int .i64 0,.int .i64 0] 99)
  clear hb1 hF
  go_wp2_with fail
  have BW:=((B1.out.set 0 (.int .i64 ((s.acked:Int)+1))).set 1 (.int .i64 o.1)).set 2 (.int .i64 o.2)
  simp only[List.setIfInBounds_toArray,List.set_cons_zero,List.set_cons_succ] at BW
  have HW:=below_set (below_set (below_set HB.out (Nat.le_refl _) 0 (.int .i64 ((s.acked:Int)+1))) (Nat.le_refl _) 1 (.int .i64 o.1)) (Nat.le_refl _) 2 (.int .i64 o.2)
  generalize ((w1.setCell ⟨w.heap.size,0,none⟩ (.int .i64 ((s.acked:Int)+1))).setCell ⟨w.heap.size,1,none⟩ (.int .i64 o.1)).setCell ⟨w.heap.size,2,none⟩ (.int .i64 o.2)=W at *
  have e0:=BW.c 0 (.int .i64 ((s.acked:Int)+1))
  have e1:=BW.c 1 (.int .i64 o.1)
  have e2:=BW.c 2 (.int .i64 o.2)
  exact bodyPost_ret (v:=.tuple #[.agg #[.int .i64 ((s.acked:Int)+1),.int .i64 o.1,.int .i64 o.2],.bool true]) (by simp[results,results123,go_sem,e0,e1,e2]) rfl ⟨rfl,HW⟩
theorem yOldest_none (S:Nat->Prop)(yb mb n0:Nat)(c:Cfg)(s:Ts)(w:World)(hY:YardAt w S yb mb n0 c s)(ha:s.acked=s.outs.length):
    Calls prog 123 #[.pointer (some ⟨yb,0,none⟩)] w λe w'=>e=.returned (.tuple #[.agg #[.int .i64 0,.int .i64 0,.int .i64 0],.bool false])/\Below w.heap.size w w':=by
  obtain⟨q,sb,qv,ov,xt,h,hx⟩:=hY
  have hS:=h.outs.row
  rw[ha,List.drop_length,Nat.sub_self] at hS
  have hF:=outFirst_none yb 15 201 ov _ (w.alloc (.cells #[.int .i64 0,.int .i64 0,.int .i64 0] 99)) (h.box.mk _) rfl (hS.mk _)
  clear h hx hS
  go_enter func123,ntmps123
  go_wp2_with fail
  go_fit hF
  rintro e w1 ⟨rfl,hb1⟩
  have d0:w1.cell? ⟨w.heap.size,0,none⟩=some (.int .i64 0):=jcell_after hb1 (by simp)
  have d1:w1.cell? ⟨w.heap.size,1,none⟩=some (.int .i64 0):=jcell_after hb1 (by simp)
  have d2:w1.cell? ⟨w.heap.size,2,none⟩=some (.int .i64 0):=jcell_after hb1 (by simp)
  have fr:∀i,w1.frozen? ⟨w.heap.size,i,none⟩=false:=λi=>frozen_after hb1 (by simp) ((Bx.new w #[.int .i64 0,.int .i64 0,.int .i64 0] 99).fr i)
  have HB:Hid (Below w.heap.size w w1):=(below_new _ _).trans (hb1.mono (by simp))
  have B1:Hid (Bx w1 w.heap.size 99 #[.int .i64 0,.int .i64 0,.int .i64 0]):=(hb1.block _ (by simp)).trans (Bx.new w #[.int .i64 0,.int .i64 0,.int .i64 0] 99)
  clear hb1 hF
  go_wp2_with fail
  have BW:=((B1.out.set 0 (.int .i64 0)).set 1 (.int .i64 0)).set 2 (.int .i64 0)
  simp only[List.setIfInBounds_toArray,List.set_cons_zero,List.set_cons_succ] at BW
  have HW:=below_set (below_set (below_set HB.out (Nat.le_refl _) 0 (.int .i64 0)) (Nat.le_refl _) 1 (.int .i64 0)) (Nat.le_refl _) 2 (.int .i64 0)
  generalize ((w1.setCell ⟨w.heap.size,0,none⟩ (.int .i64 0)).setCell ⟨w.heap.size,1,none⟩ (.int .i64 0)).setCell ⟨w.heap.size,2,none⟩ (.int .i64 0)=W at *
  have e0:=BW.c 0 (.int .i64 0)
  have e1:=BW.c 1 (.int .i64 0)
  have e2:=BW.c 2 (.int .i64 0)
  exact bodyPost_ret (v:=.tuple #[.agg #[.int .i64 0,.int .i64 0,.int .i64 0],.bool false]) (by simp[results,results123,go_sem,e0,e1,e2]) rfl ⟨rfl,HW⟩
section
open Go.Shelf
attribute [local go_sem] Oper.semAt_some
abbrev Pt (ps:List Nat):={p:Nat//p∈ps}
def KpOf (v:Value)(A B:World):Prop:=∀g,v.ownBlock=some g->B.heap[g]? =A.heap[g]?
theorem sv_run (F:Fence)(n:Nat)(hF:F.fn 223)(hro:F.round=none)(hn:1<=n)(l Bs:Nat)(a:Option Addr)(cap:Nat)(ps:List Nat)(hlen:ps.length<=1048576)(J Jx:List (Pt ps)->World->Prop)(hY:∀pre x W,J pre W->pre.length<ps.length->YieldAt F (n-1) prog l #[ptr x.1] W λe W'=>(e=.returned (.bool true)/\J (pre++[x]) W'/\KpOf (.slice a ps.length cap) W W')\/(e=.returned (.bool false)/\Jx (pre++[x]) W'))(W:World)(hBs:W.cell? ⟨Bs,0,none⟩=some (.slice a ps.length cap))(hS:Sl W 210 1 (.slice a ps.length cap) ps.length (ps.map ptr))(h0:J [] W):
    CallsIn F n prog 223 #[.func (.yield l) #[] #[],.pointer (some ⟨Bs,0,none⟩)] W λe W'=>(∃v,e=.returned v)/\
      ((∃ys,ys=ps.attach/\J ys W')\/(∃pre,(∃k,k<=ps.length/\pre=ps.attach.take k)/\Jx pre W')):=by
  have HS:Hid (Sl W 210 1 (.slice a ps.length cap) ps.length (ps.map ptr)):=hS
  have HL:Hid (ps.attach.length=ps.length):=List.length_attach
  clear hS
  refine callsIn_of_wp func223 rfl hF ?_ hro
  simp only[ntmps223,List.size_toArray,List.length_cons,List.length_nil,Nat.reduceAdd,Nat.reduceSub,Array.replicate_succ,Array.replicate_zero,List.push_toArray,List.append_toArray,List.nil_append,List.cons_append]
  gi_wp2
  gi_loopw [7] (λi wr=>∃k:Nat,k<=ps.length/\i=.int .i64 k/\J (ps.attach.take k) wr/\Hid (Sl wr 210 1 (.slice a ps.length cap) ps.length (ps.map ptr)))
    (λi _=>ps.length-(intOf i).toNat)
  case atStart=>exact⟨0,Nat.zero_le _,rfl,h0,HS⟩
  case round=>
    obtain⟨k,hk,rfl,hJs,hS⟩:=hrel
    by_cases hlt:k<ps.length
    · obtain⟨g,off,cap',hv,_⟩:=hS.out.addr (by omega)
      cases hv
      have hlk:k<ps.attach.length:=by rw[HL.out];exact hlt
      obtain⟨fn,tmps,assign,body,hy,hR⟩:=hY _ ps.attach[k] wr hJs (by rw[List.length_take,HL.out];omega)
      have hcx:wr.cell? ⟨g,off+k,none⟩=some (ptr ps.attach[k].1):=by
        have:=hS.out.cell (j:=k) (u:=ptr ps.attach[k].1) (by simp[hlt])
        exact this
      have HT:Hid (ps.attach.take (k+1)=ps.attach.take k++[ps.attach[k]]):=List.take_succ_eq_append_getElem hlk
      generalize ps.attach[k]=x at *
      unfold ptr at hcx hy
      gi_wp2
      refine hR.mono ?_
      rintro e W3 (⟨rfl,hJ3,hk3⟩|⟨rfl,hJx3⟩)
      · gi_wp2
        go_roundw
        case rel=>exact⟨k+1,by omega,by simp,by rw[HT.out];exact hJ3,hS.out.kept hk3⟩
        case measure=>simp[intOf];omega
      · gi_wp2
        refine bodyPost_ret (results_none rfl _ _ _) rfl ?_
        exact⟨⟨_,rfl⟩,.inr ⟨_,⟨k+1,by omega,HT.out.symm⟩,hJx3⟩⟩
    · obtain rfl:k=ps.length:=by omega
      gi_wp2
      go_end0
      exact⟨⟨_,rfl⟩,.inl ⟨_,rfl,by have:=hJs;rwa [<-HL.out,List.take_length] at this⟩⟩
theorem sv_stops (F:Fence)(n:Nat)(hF:F.fn 223)(hro:F.round=none)(hn:1<=n)(Bs:Nat)(v:Value)(ps:List Nat)(hlen:ps.length<=1048576)(w:World)(hB:Bs<w.heap.size)(hc:w.cell? ⟨Bs,0,none⟩=some v)(hS:Sl w 210 1 v ps.length (ps.map ptr)):
    SeqStopsK F n prog 223 #[.pointer (some ⟨Bs,0,none⟩)] (λx:Pt ps=>#[ptr x.1]) (KpOf v) (λys=>ys=ps.attach) (λpre=>∃k,k<=ps.length/\pre=ps.attach.take k) ps.length w:=λl J Jx W hW _ _ hY h0=>by
  have hc':=(hW.cell (p:=⟨Bs,0,none⟩) hB).trans hc
  obtain⟨a,cap,rfl⟩:=hS.form
  exact sv_run F n hF hro hn l Bs a cap ps hlen J Jx hY W hc' (hS.later hW) h0
theorem sv_make (a:Option Addr)(m cap:Nat)(w:World):
    Calls prog 188 #[.slice a m cap] w λe w'=>e=.returned (.func (.func 223) #[] #[.pointer (some ⟨w.heap.size,0,none⟩)])/\w'=w.alloc (.cells #[.slice a m cap] 195):=by
  go_enter func188,ntmps188
  go_wp2_with fail
  go_ret
  exact⟨rfl,rfl⟩
theorem lineAll (yb:Nat)(a:Option Addr)(m cap:Nat)(w:World)(hc:w.cell? ⟨yb,11,none⟩=some (.slice a m cap)):
    Calls prog 147 #[.pointer (some ⟨yb,11,none⟩)] w λe w'=>e=.returned (.func (.func 223) #[] #[.pointer (some ⟨w.heap.size,0,none⟩)])/\w'=w.alloc (.cells #[.slice a m cap] 195):=by
  go_enter func147,ntmps147
  go_wp2_with fail
  go_fit (sv_make a m cap w)
  rintro e w1 ⟨rfl,rfl⟩
  go_wp2_with fail
  go_ret
  exact⟨rfl,rfl⟩
theorem kpOf_t {v:Value}{A B C:World}(h:KpOf v A B)(k:KpOf v B C):KpOf v A C:=λg hg=>(k g hg).trans (h g hg)
theorem kpOf_b {v:Value}{w:World}(hv:∀g,v.ownBlock=some g->g<w.heap.size)(W:World)(l:Nat)(o o':Obj)(hl:w.heap.size<=l)(_:W.heap[l]? =some o)(_:o.isCells=false)(_:o.isWalk=false):KpOf v W (W.putObj l o'):=λg hg=>World.putObj_heap_other (by have:=hv g hg;omega)
end
abbrev Sgt:=List Nat×Nat×Bool×Nat
abbrev Gv:=Sgt×Value
def cGv (y:Gv):List Value:=[y.2,.int .i64 y.1.2.1,.bool y.1.2.2.1,.int .i64 y.1.2.2.2]
def tellS (x:Sm):Sgt:=(x.l.map Prod.fst,x.fails,x.by_ !=0,jobN x.job)
abbrev Jbt:=Nat×Nat×List Nat×(ByteArray->ByteArray)
abbrev Jv:=Jbt×Value×Value
def cJv (y:Jv):List Value:=[.int .i64 y.1.1,.int .i64 y.1.2.1,y.2.1,y.2.2]
def jobsOf:List Sm->List Nat->List Jbt
  |[],_=>[]
  |x::l,acc=>(match x.job with
    |some j=>[(j.num,j.til,acc++x.l.map Prod.fst,j.files)]
    |none=>[])++jobsOf l (acc++x.l.map Prod.fst)
def Ts.jobs (s:Ts):List Jbt:=rkG (λy=>y.1) (jobsOf s.segs []) (s.begun+1)
theorem yCheck6 (S:Nat->Prop)(yb mb n0:Nat)(c:Cfg)(s:Ts)(n:Int)(w:World)(hY:YardAt w S yb mb n0 c s)(ha:s.acked<=s.outs.length):
    Calls prog 110 #[.pointer (some ⟨yb,0,none⟩),.agg #[.int .i64 6,.int .i64 0,.slice none 0 0,.int .i64 0,.bool false,.int .i64 n]] w λe w'=>(((s.acked<s.outs.length/\n=(s.acked:Int)+1)/\e=.returned (.int .i64 0))\/((¬(s.acked<s.outs.length/\n=(s.acked:Int)+1))/\e=.returned (.int .i64 5)))/\Below w.heap.size w w':=by
  have hY0:YardAt (w.alloc (.cells #[.int .i64 6,.int .i64 0,.slice none 0 0,.int .i64 0,.bool false,.int .i64 n] 140)) S yb mb n0 c s:=hY.later (below_new _ _)
  by_cases h1:s.acked<s.outs.length
  · have hO:=yOldest_some S yb mb n0 c s _ hY0 h1
    generalize s.outs[s.acked]=o at hO
    have HP:Hid (s.acked<s.outs.length):=h1
    clear hY hY0 ha h1
    go_enter func110,ntmps110
    go_wp2_with fail
    go_fit hO
    rintro e w1 ⟨rfl,hb1⟩
    have HB:Hid (Below w.heap.size w w1):=(below_new _ _).trans (hb1.mono (by simp))
    have x5:w1.cell? ⟨w.heap.size,5,none⟩=some (.int .i64 n):=jcell_after hb1 (by simp)
    have x5o:∀o,(w1.alloc o).cell? ⟨w.heap.size,5,none⟩=some (.int .i64 n):=λo=>jcell_after (below_new w1 o) x5
    clear hb1 hO
    by_cases h2:n=(s.acked:Int)+1
    · subst h2
      go_wp2_with fail
      go_ret
      exact⟨.inl ⟨by first|exact⟨HP.out,rfl⟩|exact HP.out,rfl⟩,HB.out.trans ((below_new _ _).mono HB.out.size)⟩
    · have hne:(((s.acked:Int)+1)==n)=false:=by simp;omega
      go_wp2_with fail
      go_ret
      exact⟨.inr ⟨by first|exact(λx=>h2 x.2)|(simp;omega),rfl⟩,HB.out.trans ((below_new _ _).mono HB.out.size)⟩
  · have hO:=yOldest_none S yb mb n0 c s _ hY0 (by omega)
    have HP:Hid (¬s.acked<s.outs.length):=h1
    clear hY hY0 ha h1
    go_enter func110,ntmps110
    go_wp2_with fail
    go_fit hO
    rintro e w1 ⟨rfl,hb1⟩
    have HB:Hid (Below w.heap.size w w1):=(below_new _ _).trans (hb1.mono (by simp))
    clear hb1 hO
    go_wp2_with fail
    go_ret
    exact⟨.inr ⟨λx=>HP.out x.1,rfl⟩,HB.out.trans ((below_new _ _).mono HB.out.size)⟩
section
open Go.Sort Go.Shelf
abbrev Js:={y:Jv//IsSl y.2.1/\IsSl y.2.2}
def cJs (y:Js):List Value:=cJv y.1
instance : Inhabited Js := ⟨⟨((0, 0, [], id), .slice none 0 0, .slice none 0 0), ⟨_, _, _, rfl⟩, ⟨_, _, _, rfl⟩⟩⟩
theorem flat_eqJ (l:List Js):(flatK cJs 4 l.toArray).toList=l.flatMap cJs:=by
  apply List.ext_getElem?
  intro t
  by_cases ht:t<l.length*4
  · have h1:t/4<l.length:=by omega
    have e:t=t/4*4+t%4:=by omega
    have hr:(l.flatMap cJs)[t]? =(cJs l[t/4])[t%4]? :=by
      conv=>lhs;rw[e]
      exact flat_get cJs 4 (λ_=>rfl) l (t/4) (t%4) h1 (by omega)
    have hs:t<(flatK cJs 4 l.toArray).size:=by rw[size_flatK];simpa using ht
    rw[hr,Array.getElem?_toList,Array.getElem?_eq_getElem hs,<-getElem!_pos _ t hs,get_flatK _ _ _ t (by simpa using ht)]
    have e2:(l.toArray)[t/4]! =l[t/4]:=by rw[getElem!_pos l.toArray (t/4) (by simpa using h1)];simp
    rw[e2]
    have h2:t%4<(cJs l[t/4]).length:=by show t%4<4;omega
    rw[getElem!_pos (cJs l[t/4]) (t%4) h2,List.getElem?_eq_getElem h2]
  · rw[List.getElem?_eq_none (by rw[Array.length_toList,size_flatK];simp;omega),List.getElem?_eq_none (by rw[flat_len cJs 4 (λ_=>rfl)];omega)]
theorem flat_sizeJ (l:List Js):(flatK cJs 4 l.toArray).size=l.length*4:=by rw[size_flatK];simp
theorem holdsK_rowJ {w:World}{g:Nat}{cur:Array Value}{e:TypeId}{l:List Js}(hb:w.heap[g]? =some (.cells cur e (0,0)))(ht:cur.toList.take (l.length*4)=l.flatMap cJs):HoldsK cJs 4 w g 0 l.toArray:=by
  intro j hj
  have hj':j<l.length*4:=by rw[flat_sizeJ] at hj;exact hj
  refine⟨?_,by simp[World.frozen?,hb]⟩
  have h1:(cur.toList.take (l.length*4))[j]? =(flatK cJs 4 l.toArray).toList[j]? :=by rw[ht,flat_eqJ]
  rw[List.getElem?_take_of_lt hj',Array.getElem?_toList,Array.getElem?_toList,Array.getElem?_eq_getElem hj] at h1
  simp only[World.cell?,hb,Nat.zero_add]
  simp only[Option.isSome_none,Bool.false_eq_true,if_false]
  rw[h1,getElem!_pos (flatK cJs 4 l.toArray) j hj]
  rfl
theorem heap_sortedKJ {w:World}{g n:Nat}{os:Array Obj}{cur:Array Value}{e:TypeId}{fr:Nat×Nat}(d:Array Js)(hb:w.heap[g]? =some (.cells cur e fr)):
    (sortWorldK cJs 4 w g 0 n d os).heap[g]? =some (.cells (putCells id 0 (flatK cJs 4 d) cur) e fr):=by
  have hg:g<w.heap.size:=(Array.getElem?_eq_some_iff.1 hb).1
  unfold sortWorldK putRowK
  rw[heap_grow_old _ _ (by simpa[putRow,mapBlock,Sort.ahead] using hg)]
  simp[putRow,mapBlock,Sort.ahead,Array.getElem?_modify,hb,onCells]
theorem grownBy_sortedKJ {w:World}{g n:Nat}{os:Array Obj}(d:Array Js):w.grownBy (sortWorldK cJs 4 w g 0 n d os) (some g):=by
  unfold sortWorldK putRowK
  refine⟨rfl,rfl,rfl,by simp[putRow,mapBlock,Sort.ahead,grow],λk hk hne=>?_⟩
  rw[heap_grow_old _ _ (by simpa[putRow,mapBlock,Sort.ahead] using hk)]
  have:g≠k:=λe=>hne (by rw[e])
  simp[putRow,mapBlock,Sort.ahead,Array.getElem?_modify,this]
theorem take_putCellsKJ (cur F:Array Value)(h:F.size<=cur.size):(putCells id 0 F cur).toList.take F.size=F.toList:=by
  apply List.ext_getElem?
  intro j
  by_cases hj:j<F.size
  · rw[List.getElem?_take_of_lt hj,Array.getElem?_toList,Array.getElem?_toList]
    simp[putCells,hj,show j<cur.size by omega]
  · rw[List.getElem?_take_eq_none (by omega),List.getElem?_eq_none (by simp;omega)]
theorem ownsRow_sortedKJ {w:World}{base g cap n:Nat}{e:TypeId}{os:Array Obj}{cur:Array Value}{ss ts:List Js}(hl:ts.length=ss.length)(hbase:base<=g)(hb:w.heap[g]? =some (.cells cur e (0,0)))(h1:ss.length<=cap)(h2:cap<=maxLen)(h3:cur.size=cap*4):
    (sortWorldK cJs 4 w g 0 n ts.toArray os).ownsRow base e 4 (.slice (some ⟨g,0,none⟩) ss.length cap) ss.length (ts.flatMap cJs):=by
  refine⟨by rw[flat_len cJs 4 (λ_=>rfl),hl],.inr ⟨g,cap,_,rfl,hbase,heap_sortedKJ _ hb,h1,h2,by simp[putCells,h3],?_⟩⟩
  rw[<-hl,<-flat_sizeJ ts,<-flat_eqJ ts]
  exact take_putCellsKJ cur _ (by rw[flat_sizeJ];omega)
theorem nan_int (a:Int)(w:World):Calls prog 192 #[.int .i64 a] w λe w'=>e=.returned (.bool false)/\w'=w:=by
  go_enter func192,ntmps192
  go_wp2
  go_ret
  exact⟨rfl,rfl⟩
def cmpI (a b:Int):Int:=if a<b then -1 else if b<a then 1 else 0
theorem compare_int (a b:Int)(w:World):Calls prog 153 #[.int .i64 a,.int .i64 b] w λe w'=>e=.returned (.int .i64 (cmpI a b))/\w'=w:=by
  have ha:=nan_int a w
  have hb:=nan_int b w
  by_cases h1:a<b
  · have e:cmpI a b=-1:=if_pos h1
    rw[e]
    go_enter func153,ntmps153
    go_wp2_with fail
    go_fit ha
    rintro e w1 ⟨rfl,rfl⟩
    go_wp2_with fail
    go_fit hb
    rintro e w1 ⟨rfl,rfl⟩
    go_wp2_with fail
    go_ret
    exact⟨rfl,rfl⟩
  · by_cases h2:b<a
    · have e:cmpI a b=1:=by unfold cmpI;rw[if_neg h1,if_pos h2]
      rw[e]
      go_enter func153,ntmps153
      go_wp2_with fail
      go_fit ha
      rintro e w1 ⟨rfl,rfl⟩
      go_wp2_with fail
      go_fit hb
      rintro e w1 ⟨rfl,rfl⟩
      go_wp2_with fail
      go_ret
      exact⟨rfl,rfl⟩
    · have e:cmpI a b=0:=by unfold cmpI;rw[if_neg h1,if_neg h2]
      rw[e]
      go_enter func153,ntmps153
      go_wp2_with fail
      go_fit ha
      rintro e w1 ⟨rfl,rfl⟩
      go_wp2_with fail
      go_fit hb
      rintro e w1 ⟨rfl,rfl⟩
      go_wp2_with fail
      go_ret
      exact⟨rfl,rfl⟩
def cmpJ (x y:Js):Int:=cmpI x.1.1.1 y.1.1.1
theorem ltJ (x y:Js):ltOf cmpJ x y=decide (x.1.1.1<y.1.1.1):=by
  unfold ltOf cmpJ cmpI
  rw[decide_eq_decide]
  constructor
  · intro h
    split at h
    · omega
    · split at h<;>omega
  · intro h
    rw[if_pos (by omega)];decide
theorem swoJ:SWO (ltOf cmpJ) where
  irrefl x:=by rw[ltJ];simp
  trans x y z h1 h2:=by rw[ltJ] at *;simp at *;omega
  ntrans x y z h1 h2:=by
    rw[ltJ] at *
    simp only[decide_eq_false_iff_not] at *
    omega
theorem closure_job (x0 x1 y0 y1:Int)(x2 x3 y2 y3:Value)(h:IsSl x2/\IsSl x3/\IsSl y2/\IsSl y3)(w:World):
    Calls prog 152 #[.agg #[.int .i64 x0,.int .i64 x1,x2,x3],.agg #[.int .i64 y0,.int .i64 y1,y2,y3]] w λe w'=>e=.returned (.int .i64 (cmpI x0 y0))/\w'=(w.alloc (.cells #[.int .i64 x0,.int .i64 x1,x2,x3] 124)).alloc (.cells #[.int .i64 y0,.int .i64 y1,y2,y3] 124):=by
  obtain⟨⟨_,_,_,rfl⟩,⟨_,_,_,rfl⟩,⟨_,_,_,rfl⟩,⟨_,_,_,rfl⟩⟩:=h
  have hc:=compare_int x0 y0
  generalize cmpI x0 y0=r at hc ⊢
  go_enter func152,ntmps152
  go_wp2_with (go_at_call 153;refine(hc _).mono ?_;rintro e w' ⟨rfl,rfl⟩)
  go_ret
  exact⟨rfl,rfl⟩
theorem job_one (x:Js)(v:Value)(hv:v∈cJs x):v.oneCell'=true:=by
  obtain⟨a,n,c,h1⟩:=x.2.1
  obtain⟨a',n',c',h2⟩:=x.2.2
  simp only[cJs,cJv,h1,h2,List.mem_cons,List.not_mem_nil,or_false] at hv
  rcases hv with rfl|rfl|rfl|rfl<;>rfl
theorem cmpLaysJ (blk off size:Nat)(w:World):CmpLays prog 152 #[] cJs 4 cmpJ blk off size w:=by
  intro m os dk _ x y
  refine(closure_job _ _ _ _ _ _ _ _ ⟨x.2.1,x.2.2,y.2.1,y.2.2⟩ _).mono ?_
  rintro e w' ⟨rfl,rfl⟩
  exact⟨rfl,0,_,by rw[alloc_eq_grow,alloc_eq_grow,grow_grow];rfl⟩
theorem sort_job (l:List Js)(g cap base:Nat)(w:World)(hrow:w.ownsRow base 124 4 (.slice (some ⟨g,0,none⟩) l.length cap) l.length (l.flatMap cJs))(hn:l.length<8796093022208):
    Calls prog 151 #[.slice (some ⟨g,0,none⟩) l.length cap,.func (.func 152) #[] #[]] w λe w'=>
      e=.returned (.tuple #[])/\(∃l':List Js,l'.Perm l/\l'.Pairwise (λa b=>¬b.1.1.1<a.1.1.1)/\w'.ownsRow base 124 4 (.slice (some ⟨g,0,none⟩) l'.length cap) l'.length (l'.flatMap cJs))/\w.grownBy w' (some g):=by
  rcases hrow.2 with ⟨hnil,_⟩|⟨g',cap',cur,hv,hbase,hb,h1,h2,h3,h4⟩
  · cases hnil
  cases hv
  have eg:∀args w,(callFunc 152 args).run prog w=.ok (.enter 152 args) w:=enters_of func152 (by kernel_rfl) rfl
  have hcon:=AnyQ.slices_SortFunc Tryz.sortJ 4 Tryz.isAgg124 Tryz.sizeOf124 cJs (λ_=>rfl) job_one cmpJ swoJ 152 #[] g 0 cap l.toArray w eg (cmpLaysJ g 0 _ w) (holdsK_rowJ hb h4) (Array.getElem?_eq_some_iff.1 hb).1 (by simp;omega)
  have hcon':Calls prog 151 #[.slice (some ⟨g,0,none⟩) l.length cap,.func (.func 152) #[] #[]] w _:=hcon
  refine hcon'.mono ?_
  rintro e w' ⟨rfl,d',n,os,hp,hs,rfl⟩
  have hsz:d'.size=l.length:=by simpa using hp.1
  have e1:d'=d'.toList.toArray:=by simp
  have hperm:d'.toList.Perm l:=by
    have h:=hp.2.2
    have e2:d'.extract 0 l.toArray.size=d':=by rw[List.size_toArray,<-hsz];exact Array.extract_size
    have e3:l.toArray.extract 0 l.toArray.size=l.toArray:=Array.extract_size
    rw[e2,e3] at h
    exact h
  refine⟨rfl,⟨d'.toList,hperm,?_,?_⟩,grownBy_sortedKJ _⟩
  · rw[List.pairwise_iff_getElem]
    intro i j hi hj hij
    have:=hs i j (Nat.zero_le _) hij (by simp only[List.size_toArray];rw[Array.length_toList] at hj;omega)
    rw[ltJ,decide_eq_false_iff_not] at this
    rw[Array.length_toList] at hi hj
    rw[getElem!_pos d' i hi,getElem!_pos d' j hj] at this
    simpa using this
  · rw[e1]
    have hl:d'.toList.length=l.length:=by rw[Array.length_toList];exact hsz
    have:=ownsRow_sortedKJ (w:=w) (base:=base) (g:=g) (cap:=cap) (n:=n) (e:=124) (os:=os) (cur:=cur) (ss:=l) (ts:=d'.toList) hl hbase hb h1 h2 h3
    simpa[hl,hsz] using this
end
end Go.Proofs.YtgamgomepdfgdaaGreat
