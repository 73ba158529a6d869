import Derived.Test.YtgamgomepdfgdaaGreatFM19
import Derived.Test.YtgamgomepdfgdaaGreatFM22
set_option maxRecDepth 100000
set_option maxHeartbeats 8000000
namespace Go.Proofs.YtgamgomepdfgdaaGreat
open Go.RowKit Go.Proofs.Tryz
structure DownIs (w:World)(xb mb:Nat)(c:Cfg)(L:List UInt8)(lv:Value):Prop where
  box:Bx w xb 135 (machCells c mb lv (.pointer none))
  log:Sl w 5 1 lv L.length (bc L)
structure Fell (w w':World)(xb mb:Nat)(c:Cfg)(L:List UInt8)(lv:Value):Prop where
  down:∃lv',DownIs w' xb mb c L lv'/\(lv'.ownBlock=lv.ownBlock\/∃g,lv'.ownBlock=some g/\w.heap.size<=g)
  only:Only w w' (λk=>k=xb\/lv.ownBlock=some k)
theorem mAct_br (Y:Nat->Prop)(xb mb n0 rb yb:Nat)(c:Cfg)(s:Ts)(L l:List UInt8)(keep:Int)(lv:Value)(kind lane id num:Int)(pass:Bool)(ea:Option Addr)(en ec:Nat)(w:World)(hU:UpIs w Y xb mb n0 rb yb c s L true keep lv)(hL:L.length<1099511627776)(hl:l.length<1099511627776)(hC:∀W,Below w.heap.size w W->Calls prog 110 #[.pointer (some ⟨yb,0,none⟩),.agg #[.int .i64 kind,.int .i64 lane,.slice ea en ec,.int .i64 id,.bool pass,.int .i64 num]] W λe W'=>e=.returned (.int .i64 0)/\Below W.heap.size W W')(hY:∀W,Below w.heap.size w W->Calls prog 112 #[.agg #[.int .i64 kind,.int .i64 lane,.slice ea en ec,.int .i64 id,.bool pass,.int .i64 num]] W λe W'=>∃v',e=.returned v'/\Fresh W W' v' l)(k:Nat)(hk:(k:Int)=max 0 (min keep l.length)):
    Calls prog 73 #[.pointer (some ⟨xb,0,none⟩),.agg #[.int .i64 kind,.int .i64 lane,.slice ea en ec,.int .i64 id,.bool pass,.int .i64 num]] w λe w'=>e=.returned (.int .i64 8)/\Fell w w' xb mb c (L++l.take k) lv:=by
  have hC1:=hC (w.alloc (.cells #[.int .i64 kind,.int .i64 lane,.slice ea en ec,.int .i64 id,.bool pass,.int .i64 num] 140)).drew (below_new_drew _ _)
  have X0:=Bx.new w #[.int .i64 kind,.int .i64 lane,.slice ea en ec,.int .i64 id,.bool pass,.int .i64 num] 140
  have HB0:Hid (Below w.heap.size w (w.alloc (.cells #[.int .i64 kind,.int .i64 lane,.slice ea en ec,.int .i64 id,.bool pass,.int .i64 num] 140))):=below_new _ _
  have HU:Hid (UpIs w Y xb mb n0 rb yb c s L true keep lv):=hU
  have hU0:UpIs (w.alloc (.cells #[.int .i64 kind,.int .i64 lane,.slice ea en ec,.int .i64 id,.bool pass,.int .i64 num] 140)) Y xb mb n0 rb yb c s L true keep lv:=up_later hU (below_new _ _)
  have hYW:Hid (∀W,Below w.heap.size w W->Calls prog 112 #[.agg #[.int .i64 kind,.int .i64 lane,.slice ea en ec,.int .i64 id,.bool pass,.int .i64 num]] W λe W'=>∃v',e=.returned v'/\Fresh W W' v' l):=hY
  have HK:Hid ((k:Int)=max 0 (min keep l.length)):=hk
  clear hC hU hY hk
  go_enter func73,ntmps73
  go_upto_region 1 with fail
  generalize w.alloc (.cells #[.int .i64 kind,.int .i64 lane,.slice ea en ec,.int .i64 id,.bool pass,.int .i64 num] 140)=w0 at *
  have c9:w0.cell? ⟨xb,9,none⟩=some (.pointer (some ⟨rb,0,none⟩)):=hU0.box.cell (i:=9) rfl
  have r0:w0.cell? ⟨rb,0,none⟩=some (.pointer (some ⟨yb,0,none⟩)):=hU0.run.cell (i:=0) rfl
  have x0:w0.cell? ⟨w.heap.size,0,none⟩=some (.int .i64 kind):=X0.cell (i:=0) rfl
  have x1:w0.cell? ⟨w.heap.size,1,none⟩=some (.int .i64 lane):=X0.cell (i:=1) rfl
  have x2:w0.cell? ⟨w.heap.size,2,none⟩=some (.slice ea en ec):=X0.cell (i:=2) rfl
  have x3:w0.cell? ⟨w.heap.size,3,none⟩=some (.int .i64 id):=X0.cell (i:=3) rfl
  have x4:w0.cell? ⟨w.heap.size,4,none⟩=some (.bool pass):=X0.cell (i:=4) rfl
  have x5:w0.cell? ⟨w.heap.size,5,none⟩=some (.int .i64 num):=X0.cell (i:=5) rfl
  have HX0:Hid (Bx w0 w.heap.size 140 #[.int .i64 kind,.int .i64 lane,.slice ea en ec,.int .i64 id,.bool pass,.int .i64 num]):=X0
  clear X0 hU0
  go_upto_region 3 with fail
  go_cut [5] from 6 (λt wz=>t=.int .i64 0/\Below w0.heap.size w0 wz)
  case first=>
    go_region_held_law (λw'=>w'.cell? ⟨xb,9,none⟩=some (.pointer (some ⟨rb,0,none⟩))/\w'.cell? ⟨rb,0,none⟩=some (.pointer (some ⟨yb,0,none⟩))/\w'.cell? ⟨w.heap.size,0,none⟩=some (.int .i64 kind)/\w'.cell? ⟨w.heap.size,1,none⟩=some (.int .i64 lane)/\w'.cell? ⟨w.heap.size,2,none⟩=some (.slice ea en ec)/\w'.cell? ⟨w.heap.size,3,none⟩=some (.int .i64 id)/\w'.cell? ⟨w.heap.size,4,none⟩=some (.bool pass)/\w'.cell? ⟨w.heap.size,5,none⟩=some (.int .i64 num)) (go_keep) ((go_at_call 110;refine hC1.mono ?_;rintro e w2 ⟨rfl,hb2⟩;have c92:=jcell_after hb2 c9;have r02:=jcell_after hb2 r0;have x02:=jcell_after hb2 x0;have x12:=jcell_after hb2 x1;have x22:=jcell_after hb2 x2;have x32:=jcell_after hb2 x3;have x42:=jcell_after hb2 x4;have x52:=jcell_after hb2 x5;have HB2:Hid (Below w0.drew.heap.size w0.drew w2):=hb2;clear hb2))
    all_goals
      go_wp2_with fail
      go_meet
      case rel=>exact⟨rfl,HB2.out.os,HB2.out.tape,HB2.out.output,HB2.out.size,HB2.out.block⟩
  case rest=>
    obtain⟨rfl,hbz⟩:=hcut
    rename World=>wz
    have HBZ:Hid (Below w.heap.size w wz):=below_trans HB0.out hbz
    have z0:=jcell_after hbz x0
    have z1:=jcell_after hbz x1
    have z2:=jcell_after hbz x2
    have z3:=jcell_after hbz x3
    have z4:=jcell_after hbz x4
    have z5:=jcell_after hbz x5
    have hYz:=hYW.out wz HBZ.out
    have HUz:Hid (UpIs wz Y xb mb n0 rb yb c s L true keep lv):=up_later HU.out HBZ.out
    have HXz:Hid (Bx wz w.heap.size 140 #[.int .i64 kind,.int .i64 lane,.slice ea en ec,.int .i64 id,.bool pass,.int .i64 num]):=HX0.out.later hbz
    clear c9 r0 x0 x1 x2 x3 x4 x5 hbz hC1 HX0 HB0 hYW
    go_upto_region 7 with fail
    go_fit hYz
    rintro e w3 ⟨v3,rfl,hF⟩
    obtain⟨va,vc,rfl⟩:=row_form hF.1
    have hUz3:=up_later HUz.out hF.2
    have hWr:=mWriteBr xb mb rb yb c keep lv (.slice va l.length vc) L l w3 hUz3.box hUz3.run hUz3.log (Sl.of_row hF.1) hL hl k HK.out
    have HB3:Hid (Below w.heap.size w w3):=below_trans HBZ.out hF.2
    clear hF hUz3 hYz HUz HXz z0 z1 z2 z3 z4 z5
    go_upto_region 7 with fail
    go_fit hWr
    rintro e w4 ⟨rfl,lv',hW4⟩
    have c9:w4.cell? ⟨xb,9,none⟩=some (.pointer none):=hW4.box.cell (i:=9) rfl
    have HW4:Hid (Wrote w3 w4 xb mb c lv (.pointer none) (L++l.take k) lv'):=hW4
    clear hW4 hWr HBZ
    go_wp2_with fail
    go_ret
    exact⟨rfl,⟨lv',⟨HW4.out.box,HW4.out.log⟩,HW4.out.blk.imp (λh=>h) (λ⟨g,h1,h2⟩=>⟨g,h1,Nat.le_trans HB3.out.size h2⟩)⟩,(Only.of_below HB3.out).trans HW4.out.only λk hk=>.inl hk⟩
theorem Bx.drewd {w:World}{b:Nat}{t:TypeId}{cs:Array Value}(h:Bx w b t cs):Bx w.drew b t cs:=h
theorem mAct_down (xb mb:Nat)(c:Cfg)(L:List UInt8)(lv:Value)(kind lane id num:Int)(pass:Bool)(ea:Option Addr)(en ec:Nat)(w:World)(hD:DownIs w xb mb c L lv):
    Calls prog 73 #[.pointer (some ⟨xb,0,none⟩),.agg #[.int .i64 kind,.int .i64 lane,.slice ea en ec,.int .i64 id,.bool pass,.int .i64 num]] w λe w'=>e=.returned (.int .i64 8)/\Below w.heap.size w w':=by
  have c9:(w.alloc (.cells #[.int .i64 kind,.int .i64 lane,.slice ea en ec,.int .i64 id,.bool pass,.int .i64 num] 140)).cell? ⟨xb,9,none⟩=some (.pointer none):=(hD.box.mk _).cell (i:=9) rfl
  clear hD
  go_enter func73,ntmps73
  go_wp2_with fail
  go_ret
  exact⟨rfl,below_new _ _⟩
theorem mSubmit_of (xb:Nat)(id lane:Int)(ea:Option Addr)(en ec:Nat)(k:Int)(R:World->Prop)(w:World)(h:Calls prog 73 #[.pointer (some ⟨xb,0,none⟩),.agg #[.int .i64 1,.int .i64 lane,.slice ea en ec,.int .i64 id,.bool false,.int .i64 0]] w λe w'=>e=.returned (.int .i64 k)/\R w'):
    Calls prog 31 #[.pointer (some ⟨xb,0,none⟩),.int .i64 id,.int .i64 lane,.slice ea en ec] w λe w'=>e=.returned (.int .i64 k)/\R w':=by
  go_enter func31,ntmps31
  go_wp2_with fail
  go_fit h
  rintro e w' ⟨rfl,hR⟩
  have HR:Hid (R w'):=hR
  clear hR h
  go_wp2_with fail
  go_ret
  exact⟨rfl,HR.out⟩
theorem mAck_of (xb:Nat)(n:Int)(k:Int)(R:World->Prop)(w:World)(h:Calls prog 73 #[.pointer (some ⟨xb,0,none⟩),.agg #[.int .i64 6,.int .i64 0,.slice none 0 0,.int .i64 0,.bool false,.int .i64 n]] w λe w'=>e=.returned (.int .i64 k)/\R w'):
    Calls prog 79 #[.pointer (some ⟨xb,0,none⟩),.int .i64 n] w λe w'=>e=.returned (.int .i64 k)/\R w':=by
  go_enter func79,ntmps79
  go_wp2_with fail
  go_fit h
  rintro e w' ⟨rfl,hR⟩
  have HR:Hid (R w'):=hR
  clear hR h
  go_wp2_with fail
  go_ret
  exact⟨rfl,HR.out⟩
theorem mPoll_down (xb mb:Nat)(c:Cfg)(L:List UInt8)(lv:Value)(w:World)(hD:DownIs w xb mb c L lv):
    Calls prog 77 #[.pointer (some ⟨xb,0,none⟩)] w λe w'=>e=.returned (.tuple #[.agg #[.int .i64 0,.int .i64 0,.int .i64 0],.int .i64 8])/\Below w.heap.size w w':=by
  have c9:w.cell? ⟨xb,9,none⟩=some (.pointer none):=hD.box.cell (i:=9) rfl
  have hxl:=hD.box.lt
  clear hD
  go_enter func77,ntmps77
  go_wp2_with fail
  refine bodyPost_ret (by simp[results,results77,go_sem];rfl) rfl ⟨by rfl,?_⟩
  exact below_new _ _
section
open Go.Maps
theorem makeS (w:World):(Instr.makeMap 194 none).run prog w=.ok (.map (some w.heap.size)) (w.alloc (.map #[] 0)):=by
  simp[Instr.makeMap]
theorem yNew (mb:Nat)(n0:Nat)(g:ByteArray->ByteArray)(c:Cfg)(w:World)(hm:FilesMap w mb n0 g):
    Calls prog 114 #[.agg #[.int .i64 c.lanes,.int .i64 c.age,.int .i64 c.batch,.int .i64 c.window,.int .i64 c.retries,.int .i64 c.deadline,.int .i64 c.queue],.map (some mb)] w λe w'=>(∃yb,e=.returned (.pointer (some ⟨yb,0,none⟩))/\w.heap.size<=yb/\YardAt w' (λk=>w.heap.size<=k/\k<w'.heap.size) yb mb n0 c (Ts.start g))/\Below w.heap.size w w':=by
  have hmk:=makeS
  have HM:Hid (FilesMap w mb n0 g):=hm
  have hml:=hm.lt
  clear hm
  go_enter func114,ntmps114
  go_wp2_with fail
  go_ret
  have e1:(w.alloc (.cells #[.int .i64 c.lanes,.int .i64 c.age,.int .i64 c.batch,.int .i64 c.window,.int .i64 c.retries,.int .i64 c.deadline,.int .i64 c.queue] 23)).heap.size=w.heap.size+1:=by simp
  have e2:((w.alloc (.cells #[.int .i64 c.lanes,.int .i64 c.age,.int .i64 c.batch,.int .i64 c.window,.int .i64 c.retries,.int .i64 c.deadline,.int .i64 c.queue] 23)).alloc (.map #[] 0)).heap.size=w.heap.size+1+1:=by simp
  have S1:=Subm.made (w.alloc (.cells #[.int .i64 c.lanes,.int .i64 c.age,.int .i64 c.batch,.int .i64 c.window,.int .i64 c.retries,.int .i64 c.deadline,.int .i64 c.queue] 23))
  have B2:=Bx.new ((w.alloc (.cells #[.int .i64 c.lanes,.int .i64 c.age,.int .i64 c.batch,.int .i64 c.window,.int .i64 c.retries,.int .i64 c.deadline,.int .i64 c.queue] 23)).alloc (.map #[] 0)) (yardCells c ⟨mb,.slice none 0 0,.slice none 0 0,n0⟩ 0 0 (.slice none 0 0) (w.heap.size+1) 0 (.slice none 0 0)) 201
  rw[e2] at B2
  rw[e1] at S1
  refine⟨⟨_,rfl,by omega,[],w.heap.size+1,.slice none 0 0,.slice none 0 0,⟨mb,.slice none 0 0,.slice none 0 0,n0⟩,⟨List.Perm.refl _,B2,⟨Sl.nil _ _ _,by simp,by simp[In,Value.ownBlock],by simp⟩,S1.later (below_new _ _),⟨Sl.nil _ _ _,by simp[In,Value.ownBlock]⟩,⟨by omega,B2.lt⟩,⟨by omega,(S1.later (below_new _ _)).lt⟩,⟨[],[],λh=>by have:=h.1;omega,?_,.inl rfl,HM.out.same ?_,⟨rfl,Sl.nil _ _ _,by simp[In,Value.ownBlock],by simp⟩,rfl,Sl.nil _ _ _,by simp[In,Value.ownBlock],by simp,by simp⟩,by simp only;omega⟩,by simp⟩,?_⟩
  · simp;omega
  · exact(below_then (below_then (below_new _ _) (below_new _ _)) (below_new _ _)).block mb hml
  exact below_then (below_then (below_new _ _) (below_new _ _)) (below_new _ _)
end
theorem mPoll_none (Y:Nat->Prop)(xb mb n0 rb yb:Nat)(c:Cfg)(s:Ts)(L:List UInt8)(br:Bool)(keep:Int)(lv:Value)(w:World)(hU:UpIs w Y xb mb n0 rb yb c s L br keep lv)(ha:s.acked=s.outs.length):
    Calls prog 77 #[.pointer (some ⟨xb,0,none⟩)] w λe w'=>e=.returned (.tuple #[.agg #[.int .i64 0,.int .i64 0,.int .i64 0],.int .i64 5])/\Below w.heap.size w w':=by
  have hO:=yOldest_none Y yb mb n0 c s (w.alloc (.cells #[.int .i64 0,.int .i64 0,.int .i64 0] 99)) (hU.yard.later (below_new _ _)) ha
  have c9:w.cell? ⟨xb,9,none⟩=some (.pointer (some ⟨rb,0,none⟩)):=hU.box.cell (i:=9) rfl
  have r0:w.cell? ⟨rb,0,none⟩=some (.pointer (some ⟨yb,0,none⟩)):=hU.run.cell (i:=0) rfl
  have hxl:=hU.box.lt
  have hrl:=hU.run.lt
  clear hU
  go_enter func77,ntmps77
  go_wp2_with fail
  go_fit hO
  rintro e w1 ⟨rfl,hb1⟩
  have B1:Bx w1 w.heap.size 99 #[.int .i64 0,.int .i64 0,.int .i64 0]:=(hb1.block _ (by simp)).trans (Bx.new w #[.int .i64 0,.int .i64 0,.int .i64 0] 99)
  have hlt:w.heap.size<w1.heap.size:=B1.lt
  have fr:∀i,w1.frozen? ⟨w.heap.size,i,none⟩=false:=λi=>B1.fr i
  have d0:w1.cell? ⟨w.heap.size,0,none⟩=some (.int .i64 0):=B1.cell (i:=0) rfl
  have d1:w1.cell? ⟨w.heap.size,1,none⟩=some (.int .i64 0):=B1.cell (i:=1) rfl
  have d2:w1.cell? ⟨w.heap.size,2,none⟩=some (.int .i64 0):=B1.cell (i:=2) rfl
  have HB1:Hid (Bx w1 w.heap.size 99 #[.int .i64 0,.int .i64 0,.int .i64 0]):=B1
  have HB:Hid (Below w.heap.size w w1):=(below_new _ _).trans (hb1.mono (by simp))
  clear hb1 hO B1
  go_wp2_with fail
  have BW:=((HB1.out.set 0 (.int .i64 0)).set 1 (.int .i64 0)).set 2 (.int .i64 0)
  simp only[List.setIfInBounds_toArray,List.set_cons_zero,List.set_cons_succ] at BW
  have HW:=below_set (below_set (below_set HB.out (Nat.le_refl _) 0 (.int .i64 0)) (Nat.le_refl _) 1 (.int .i64 0)) (Nat.le_refl _) 2 (.int .i64 0)
  generalize ((w1.setCell ⟨w.heap.size,0,none⟩ (.int .i64 0)).setCell ⟨w.heap.size,1,none⟩ (.int .i64 0)).setCell ⟨w.heap.size,2,none⟩ (.int .i64 0)=W at *
  have BW2:=BW.mk (.cells #[.int .i64 0,.int .i64 0,.int .i64 0] 99)
  have e0:=BW2.c 0 (.int .i64 0)
  have e1:=BW2.c 1 (.int .i64 0)
  have e2:=BW2.c 2 (.int .i64 0)
  have HW2:=HW.trans ((below_new W (.cells #[.int .i64 0,.int .i64 0,.int .i64 0] 99)).mono HW.size)
  exact bodyPost_ret (v:=.tuple #[.agg #[.int .i64 0,.int .i64 0,.int .i64 0],.int .i64 5]) (by simp[results,results77,go_sem,e0,e1,e2]) rfl ⟨rfl,HW2⟩
theorem mPoll_some (Y:Nat->Prop)(xb mb n0 rb yb:Nat)(c:Cfg)(s:Ts)(L:List UInt8)(br:Bool)(keep:Int)(lv:Value)(w:World)(hU:UpIs w Y xb mb n0 rb yb c s L br keep lv)(ha:s.acked<s.outs.length):
    Calls prog 77 #[.pointer (some ⟨xb,0,none⟩)] w λe w'=>e=.returned (.tuple #[.agg #[.int .i64 ((s.acked:Int)+1),.int .i64 (s.outs[s.acked]'ha).1,.int .i64 (s.outs[s.acked]'ha).2],.int .i64 0])/\Below w.heap.size w w':=by
  have hO:=yOldest_some Y yb mb n0 c s (w.alloc (.cells #[.int .i64 0,.int .i64 0,.int .i64 0] 99)) (hU.yard.later (below_new _ _)) ha
  generalize s.outs[s.acked]'ha=o at hO ⊢
  have c9:w.cell? ⟨xb,9,none⟩=some (.pointer (some ⟨rb,0,none⟩)):=hU.box.cell (i:=9) rfl
  have r0:w.cell? ⟨rb,0,none⟩=some (.pointer (some ⟨yb,0,none⟩)):=hU.run.cell (i:=0) rfl
  have hxl:=hU.box.lt
  have hrl:=hU.run.lt
  clear hU
  go_enter func77,ntmps77
  go_wp2_with fail
  go_fit hO
  rintro e w1 ⟨rfl,hb1⟩
  have B1:Bx w1 w.heap.size 99 #[.int .i64 0,.int .i64 0,.int .i64 0]:=(hb1.block _ (by simp)).trans (Bx.new w #[.int .i64 0,.int .i64 0,.int .i64 0] 99)
  have hlt:w.heap.size<w1.heap.size:=B1.lt
  have fr:∀i,w1.frozen? ⟨w.heap.size,i,none⟩=false:=λi=>B1.fr i
  have d0:w1.cell? ⟨w.heap.size,0,none⟩=some (.int .i64 0):=B1.cell (i:=0) rfl
  have d1:w1.cell? ⟨w.heap.size,1,none⟩=some (.int .i64 0):=B1.cell (i:=1) rfl
  have d2:w1.cell? ⟨w.heap.size,2,none⟩=some (.int .i64 0):=B1.cell (i:=2) rfl
  have HB1:Hid (Bx w1 w.heap.size 99 #[.int .i64 0,.int .i64 0,.int .i64 0]):=B1
  have HB:Hid (Below w.heap.size w w1):=(below_new _ _).trans (hb1.mono (by simp))
  clear hb1 hO B1
  go_wp2_with fail
  have BW:=((HB1.out.set 0 (.int .i64 ((s.acked:Int)+1))).set 1 (.int .i64 o.1)).set 2 (.int .i64 o.2)
  simp only[List.setIfInBounds_toArray,List.set_cons_zero,List.set_cons_succ] at BW
  have HW:=below_set (below_set (below_set HB.out (Nat.le_refl _) 0 (.int .i64 ((s.acked:Int)+1))) (Nat.le_refl _) 1 (.int .i64 o.1)) (Nat.le_refl _) 2 (.int .i64 o.2)
  generalize ((w1.setCell ⟨w.heap.size,0,none⟩ (.int .i64 ((s.acked:Int)+1))).setCell ⟨w.heap.size,1,none⟩ (.int .i64 o.1)).setCell ⟨w.heap.size,2,none⟩ (.int .i64 o.2)=W at *
  have BW2:=BW.mk (.cells #[.int .i64 ((s.acked:Int)+1),.int .i64 o.1,.int .i64 o.2] 99)
  have e0:=BW2.c 0 (.int .i64 ((s.acked:Int)+1))
  have e1:=BW2.c 1 (.int .i64 o.1)
  have e2:=BW2.c 2 (.int .i64 o.2)
  have HW2:=HW.trans ((below_new W (.cells #[.int .i64 ((s.acked:Int)+1),.int .i64 o.1,.int .i64 o.2] 99)).mono HW.size)
  exact bodyPost_ret (v:=.tuple #[.agg #[.int .i64 ((s.acked:Int)+1),.int .i64 o.1,.int .i64 o.2],.int .i64 0]) (by simp[results,results77,go_sem,e0,e1,e2]) rfl ⟨rfl,HW2⟩
theorem mPump_of (xb:Nat)(k:Int)(R:World->Prop)(w:World)(h:Calls prog 73 #[.pointer (some ⟨xb,0,none⟩),.agg #[.int .i64 3,.int .i64 0,.slice none 0 0,.int .i64 0,.bool false,.int .i64 0]] w λe w'=>e=.returned (.int .i64 k)/\R w'):
    Calls prog 30 #[.pointer (some ⟨xb,0,none⟩)] w λe w'=>e=.returned (.int .i64 k)/\R w':=by
  go_enter func30,ntmps30
  go_wp2_with fail
  go_fit h
  rintro e w' ⟨rfl,hR⟩
  have HR:Hid (R w'):=hR
  clear hR h
  go_wp2_with fail
  go_ret
  exact⟨rfl,HR.out⟩
theorem mAnswer_of (xb:Nat)(num:Int)(pass:Bool)(k:Int)(R:World->Prop)(w:World)(h:Calls prog 73 #[.pointer (some ⟨xb,0,none⟩),.agg #[.int .i64 4,.int .i64 0,.slice none 0 0,.int .i64 0,.bool pass,.int .i64 num]] w λe w'=>e=.returned (.int .i64 k)/\R w'):
    Calls prog 44 #[.pointer (some ⟨xb,0,none⟩),.int .i64 num,.bool pass] w λe w'=>e=.returned (.int .i64 k)/\R w':=by
  go_enter func44,ntmps44
  go_wp2_with fail
  go_fit h
  rintro e w' ⟨rfl,hR⟩
  have HR:Hid (R w'):=hR
  clear hR h
  go_wp2_with fail
  go_ret
  exact⟨rfl,HR.out⟩
structure Started (w w':World)(xb mb n0:Nat)(g:ByteArray->ByteArray)(c:Cfg)(L:List UInt8)(lv:Value):Prop where
  up:∃Y rb yb,UpIs w' Y xb mb n0 rb yb c (Ts.start g) L false 0 lv/\w.heap.size<=rb/\∀k,Y k->w.heap.size<=k
  only:Only w w' (λk=>k=xb)
theorem mStart (xb mb n0:Nat)(g:ByteArray->ByteArray)(c:Cfg)(L:List UInt8)(lv:Value)(up:Option Addr)(w:World)(hB:Bx w xb 135 (machCells c mb lv (.pointer up)))(hL:Sl w 5 1 lv L.length (bc L))(hm:FilesMap w mb n0 g):
    Calls prog 75 #[.pointer (some ⟨xb,0,none⟩)] w λe w'=>e=.returned (.tuple #[])/\Started w w' xb mb n0 g c L lv:=by
  have hN:=yNew mb n0 g c w.drew hm
  have HM:Hid (TyAt w mb tMap):=hm.ty
  have hmx:Hid (mb≠xb):=λe=>absurd (hm.ty.one (e▸hB.ty)) (by decide)
  clear hm
  have b0:w.cell? ⟨xb,0,none⟩=some (.int .i64 c.lanes):=hB.cell (i:=0) rfl
  have b1:w.cell? ⟨xb,1,none⟩=some (.int .i64 c.age):=hB.cell (i:=1) rfl
  have b2:w.cell? ⟨xb,2,none⟩=some (.int .i64 c.batch):=hB.cell (i:=2) rfl
  have b3:w.cell? ⟨xb,3,none⟩=some (.int .i64 c.window):=hB.cell (i:=3) rfl
  have b4:w.cell? ⟨xb,4,none⟩=some (.int .i64 c.retries):=hB.cell (i:=4) rfl
  have b5:w.cell? ⟨xb,5,none⟩=some (.int .i64 c.deadline):=hB.cell (i:=5) rfl
  have b6:w.cell? ⟨xb,6,none⟩=some (.int .i64 c.queue):=hB.cell (i:=6) rfl
  have b7:w.cell? ⟨xb,7,none⟩=some (.map (some mb)):=hB.cell (i:=7) rfl
  have b9:w.cell? ⟨xb,9,none⟩=some (.pointer up):=hB.cell (i:=9) rfl
  have f9:=hB.fr 9
  have HB:Hid (Bx w xb 135 (machCells c mb lv (.pointer up))):=hB
  have HL:Hid (Sl w 5 1 lv L.length (bc L)):=hL
  have hxl:=hB.lt
  have hk:∀(W:World) (v:Value) (i:Nat),i≠9->(W.setCell ⟨xb,9,none⟩ v).cell? ⟨xb,i,none⟩=W.cell? ⟨xb,i,none⟩:=λW v i hi=>World.cell?_setCell_other _ _ _ _ (by intro e;injection e with e1 e2;omega)
  clear hB hL
  go_enter func75,ntmps75
  go_wp2_with fail
  go_region_held_law (λw'=>w'.cell? ⟨xb,0,none⟩=some (.int .i64 c.lanes)/\w'.cell? ⟨xb,1,none⟩=some (.int .i64 c.age)/\w'.cell? ⟨xb,2,none⟩=some (.int .i64 c.batch)/\w'.cell? ⟨xb,3,none⟩=some (.int .i64 c.window)/\w'.cell? ⟨xb,4,none⟩=some (.int .i64 c.retries)/\w'.cell? ⟨xb,5,none⟩=some (.int .i64 c.deadline)/\w'.cell? ⟨xb,6,none⟩=some (.int .i64 c.queue)/\w'.cell? ⟨xb,7,none⟩=some (.map (some mb))) (first|go_keep|(refine⟨?_,?_,?_,?_,?_,?_,?_,?_⟩<;>(rw[hk _ _ _ (by decide)];exact jcell_after (below_new _ _) (by assumption)))) ((go_at_call 114;refine hN.mono ?_;rintro e w1 ⟨⟨yb,rfl,hyb,hY1⟩,hb1⟩;have a0:=jcell_after hb1 b0;have a1:=jcell_after hb1 b1;have a2:=jcell_after hb1 b2;have a3:=jcell_after hb1 b3;have a4:=jcell_after hb1 b4;have a5:=jcell_after hb1 b5;have a6:=jcell_after hb1 b6;have a7:=jcell_after hb1 b7;have a9:=jcell_after hb1 b9;have g9:w1.frozen? ⟨xb,9,none⟩=false:=frozen_after hb1 hxl f9;have g9o:∀o,(w1.alloc o).frozen? ⟨xb,9,none⟩=false:=(λo=>frozen_after (below_new w1 o) (jcell_lt a9) g9);have a9o:∀o,(w1.alloc o).cell? ⟨xb,9,none⟩=some (.pointer up):=(λo=>jcell_after (below_new w1 o) a9);have HY1:Hid (YardAt w1 (λk=>w.drew.heap.size<=k/\k<w1.heap.size) yb mb n0 c (Ts.start g)):=hY1;have HB1:Hid (Below w.heap.size w w1):=⟨hb1.os,hb1.tape,hb1.output,hb1.size,hb1.block⟩;clear hY1 hb1))
  all_goals
    go_wp2_with fail
    have hs:=HB1.out.size
    have hBn:=(HB.out.later HB1.out).mk (.cells (runCells yb false 0) 137)
    have hRn:=Bx.new w1 (runCells yb false 0) 137
    have hYn:=HY1.out.later (below_new w1 (.cells (runCells yb false 0) 137))
    have hLn:=(HL.out.later HB1.out).mk (.cells (runCells yb false 0) 137)
    have O1:Only w (w1.alloc (.cells (runCells yb false 0) 137)) (λk=>k=xb):=Only.of_below (HB1.out.trans ((below_new w1 _).mono hs))
    have hxw:xb<w1.heap.size:=by omega
    have hln:=hLn.ne hBn (by decide)
    have hw1:(w1.alloc (.cells (runCells yb false 0) 137)).heap.size=w1.heap.size+1:=by simp
    refine bodyPost_end (v:=.tuple #[]) (results_none (by kernel_rfl) _ _ _) rfl ⟨rfl,⟨(λk=>w.heap.size<=k/\k<w1.heap.size),w1.heap.size,yb,⟨hBn.set 9 _,hRn.other (by omega) _ _,hLn.grown (grown_set _ _ _ _) (λg hg e=>hln (by rw[hg];exact e.symm)),?_,?_,?_,?_,?_,?_⟩,hs,λk hk=>hk.1⟩,O1.set (.inl rfl)⟩
    · refine hYn.kept (by simp) λk hk hS=>(grown_set _ _ _ _).block k hk λe=>?_
      injection e with e
      rcases hS with hS|hS
      · have:w.heap.size<=k:=hS.1
        omega
      · exact hmx.out (hS.symm.trans e)
    · exact λh=>by have:w.heap.size<=xb:=h.1;omega
    · exact λh=>Nat.lt_irrefl _ h.2
    · exact λg hg h=>by have h1:=HL.out.lt hg;have:w.heap.size<=g:=h.1;omega
    · exact λk h=>by have:k<w1.heap.size:=h.2;simp;omega
    · exact HM.out.kept ((O1.set (i:=9) (u:=.pointer (some ⟨w1.heap.size,0,none⟩)) (.inl rfl)).block mb HM.out.lt hmx.out)
section
open Go.Sort
theorem within_val (n a b:Int)(r:Bool)(hr:r=true↔(a<=n/\n<=b))(w:World):
    Calls prog 126 #[.int .i64 n,.int .i64 a,.int .i64 b] w λe w'=>e=.returned (.bool r)/\w'=w:=by
  have Hr:Hid (r=true↔(a<=n/\n<=b)):=hr
  clear hr
  by_cases h1:a<=n
  · by_cases h2:n<=b
    · have e:Hid (r=true):=Hr.out.2 ⟨h1,h2⟩
      go_enter func126,ntmps126
      go_wp2
      go_ret
      exact⟨by rw[e.out];rfl,rfl⟩
    · have e:Hid (r=false):=by
        show r=false
        cases r
        · rfl
        · exact absurd (Hr.out.1 rfl).2 h2
      go_enter func126,ntmps126
      go_wp2
      go_ret
      exact⟨by rw[e.out];rfl,rfl⟩
  · have e:Hid (r=false):=by
      show r=false
      cases r
      · rfl
      · exact absurd (Hr.out.1 rfl).1 h1
    go_enter func126,ntmps126
    go_wp2
    go_ret
    exact⟨by rw[e.out];rfl,rfl⟩
def CfgOk (n0 n1 n2 n3 n4 n5 n6:Int):Prop:=(1<=n0/\n0<=4)/\(1<=n1/\n1<=8)/\(1<=n2/\n2<=8)/\(1<=n3/\n3<=4)/\(0<=n4/\n4<=3)/\(1<=n5/\n5<=100)/\(1<=n6/\n6<=16)
theorem mConfig (n0 n1 n2 n3 n4 n5 n6:Int)(w:World):
    Calls prog 84 #[.agg #[.int .i64 n0,.int .i64 n1,.int .i64 n2,.int .i64 n3,.int .i64 n4,.int .i64 n5,.int .i64 n6]] w λe w'=>RetIff e (CfgOk n0 n1 n2 n3 n4 n5 n6)/\Below w.heap.size w w':=by
  have HP:Hid (CfgOk n0 n1 n2 n3 n4 n5 n6↔((1<=n0/\n0<=4)/\(1<=n1/\n1<=8)/\(1<=n2/\n2<=8)/\(1<=n3/\n3<=4)/\(0<=n4/\n4<=3)/\(1<=n5/\n5<=100)/\(1<=n6/\n6<=16))):=Iff.rfl
  generalize CfgOk n0 n1 n2 n3 n4 n5 n6=P at HP ⊢
  by_cases h0:(1<=n0/\n0<=4)
  · have c0:=within_val n0 1 4 true ⟨λ_=>h0,λ_=>rfl⟩
    by_cases h1:(1<=n1/\n1<=8)
    · have c1:=within_val n1 1 8 true ⟨λ_=>h1,λ_=>rfl⟩
      by_cases h2:(1<=n2/\n2<=8)
      · have c2:=within_val n2 1 8 true ⟨λ_=>h2,λ_=>rfl⟩
        by_cases h3:(1<=n3/\n3<=4)
        · have c3:=within_val n3 1 4 true ⟨λ_=>h3,λ_=>rfl⟩
          by_cases h4:(0<=n4/\n4<=3)
          · have c4:=within_val n4 0 3 true ⟨λ_=>h4,λ_=>rfl⟩
            by_cases h5:(1<=n5/\n5<=100)
            · have c5:=within_val n5 1 100 true ⟨λ_=>h5,λ_=>rfl⟩
              by_cases h6:(1<=n6/\n6<=16)
              · have c6:=within_val n6 1 16 true ⟨λ_=>h6,λ_=>rfl⟩
                have F:Hid P:=HP.out.2 ⟨h0,h1,h2,h3,h4,h5,h6⟩
                go_enter func84,ntmps84
                go_wp2_with (first|(go_at_call 126;go_fit (c0 _);rintro e w' ⟨rfl,rfl⟩)|(go_at_call 126;go_fit (c1 _);rintro e w' ⟨rfl,rfl⟩)|(go_at_call 126;go_fit (c2 _);rintro e w' ⟨rfl,rfl⟩)|(go_at_call 126;go_fit (c3 _);rintro e w' ⟨rfl,rfl⟩)|(go_at_call 126;go_fit (c4 _);rintro e w' ⟨rfl,rfl⟩)|(go_at_call 126;go_fit (c5 _);rintro e w' ⟨rfl,rfl⟩)|(go_at_call 126;go_fit (c6 _);rintro e w' ⟨rfl,rfl⟩))
                go_ret
                exact⟨.yes F.out,below_new _ _⟩
              · have c6:=within_val n6 1 16 false ⟨λx=>Bool.noConfusion x,λx=>absurd x h6⟩
                have F:Hid (¬P):=λx=>h6 (HP.out.1 x).2.2.2.2.2.2
                go_enter func84,ntmps84
                go_wp2_with (first|(go_at_call 126;go_fit (c0 _);rintro e w' ⟨rfl,rfl⟩)|(go_at_call 126;go_fit (c1 _);rintro e w' ⟨rfl,rfl⟩)|(go_at_call 126;go_fit (c2 _);rintro e w' ⟨rfl,rfl⟩)|(go_at_call 126;go_fit (c3 _);rintro e w' ⟨rfl,rfl⟩)|(go_at_call 126;go_fit (c4 _);rintro e w' ⟨rfl,rfl⟩)|(go_at_call 126;go_fit (c5 _);rintro e w' ⟨rfl,rfl⟩)|(go_at_call 126;go_fit (c6 _);rintro e w' ⟨rfl,rfl⟩))
                go_ret
                exact⟨.no F.out,below_new _ _⟩
            · have c5:=within_val n5 1 100 false ⟨λx=>Bool.noConfusion x,λx=>absurd x h5⟩
              have F:Hid (¬P):=λx=>h5 (HP.out.1 x).2.2.2.2.2.1
              go_enter func84,ntmps84
              go_wp2_with (first|(go_at_call 126;go_fit (c0 _);rintro e w' ⟨rfl,rfl⟩)|(go_at_call 126;go_fit (c1 _);rintro e w' ⟨rfl,rfl⟩)|(go_at_call 126;go_fit (c2 _);rintro e w' ⟨rfl,rfl⟩)|(go_at_call 126;go_fit (c3 _);rintro e w' ⟨rfl,rfl⟩)|(go_at_call 126;go_fit (c4 _);rintro e w' ⟨rfl,rfl⟩)|(go_at_call 126;go_fit (c5 _);rintro e w' ⟨rfl,rfl⟩))
              go_ret
              exact⟨.no F.out,below_new _ _⟩
          · have c4:=within_val n4 0 3 false ⟨λx=>Bool.noConfusion x,λx=>absurd x h4⟩
            have F:Hid (¬P):=λx=>h4 (HP.out.1 x).2.2.2.2.1
            go_enter func84,ntmps84
            go_wp2_with (first|(go_at_call 126;go_fit (c0 _);rintro e w' ⟨rfl,rfl⟩)|(go_at_call 126;go_fit (c1 _);rintro e w' ⟨rfl,rfl⟩)|(go_at_call 126;go_fit (c2 _);rintro e w' ⟨rfl,rfl⟩)|(go_at_call 126;go_fit (c3 _);rintro e w' ⟨rfl,rfl⟩)|(go_at_call 126;go_fit (c4 _);rintro e w' ⟨rfl,rfl⟩))
            go_ret
            exact⟨.no F.out,below_new _ _⟩
        · have c3:=within_val n3 1 4 false ⟨λx=>Bool.noConfusion x,λx=>absurd x h3⟩
          have F:Hid (¬P):=λx=>h3 (HP.out.1 x).2.2.2.1
          go_enter func84,ntmps84
          go_wp2_with (first|(go_at_call 126;go_fit (c0 _);rintro e w' ⟨rfl,rfl⟩)|(go_at_call 126;go_fit (c1 _);rintro e w' ⟨rfl,rfl⟩)|(go_at_call 126;go_fit (c2 _);rintro e w' ⟨rfl,rfl⟩)|(go_at_call 126;go_fit (c3 _);rintro e w' ⟨rfl,rfl⟩))
          go_ret
          exact⟨.no F.out,below_new _ _⟩
      · have c2:=within_val n2 1 8 false ⟨λx=>Bool.noConfusion x,λx=>absurd x h2⟩
        have F:Hid (¬P):=λx=>h2 (HP.out.1 x).2.2.1
        go_enter func84,ntmps84
        go_wp2_with (first|(go_at_call 126;go_fit (c0 _);rintro e w' ⟨rfl,rfl⟩)|(go_at_call 126;go_fit (c1 _);rintro e w' ⟨rfl,rfl⟩)|(go_at_call 126;go_fit (c2 _);rintro e w' ⟨rfl,rfl⟩))
        go_ret
        exact⟨.no F.out,below_new _ _⟩
    · have c1:=within_val n1 1 8 false ⟨λx=>Bool.noConfusion x,λx=>absurd x h1⟩
      have F:Hid (¬P):=λx=>h1 (HP.out.1 x).2.1
      go_enter func84,ntmps84
      go_wp2_with (first|(go_at_call 126;go_fit (c0 _);rintro e w' ⟨rfl,rfl⟩)|(go_at_call 126;go_fit (c1 _);rintro e w' ⟨rfl,rfl⟩))
      go_ret
      exact⟨.no F.out,below_new _ _⟩
  · have c0:=within_val n0 1 4 false ⟨λx=>Bool.noConfusion x,λx=>absurd x h0⟩
    have F:Hid (¬P):=λx=>h0 (HP.out.1 x).1
    go_enter func84,ntmps84
    go_wp2_with (first|(go_at_call 126;go_fit (c0 _);rintro e w' ⟨rfl,rfl⟩))
    go_ret
    exact⟨.no F.out,below_new _ _⟩
end
def MainOk (s:Ts):Prop:=∀y∈s.main,y.2.length<=8
theorem MainOk.step {c:Cfg}{s s':Ts}(hI:s.Inv c)(h:MainOk s)(hs:s.step c=some s'):MainOk s':=by
  unfold Ts.step at hs
  cases e:s.segs with
  |nil=>
    simp only[e] at hs
    split at hs
    · cases hs
    · cases hs;exact h
  |cons f m=>
    simp only[e] at hs
    have hf:f.l.length<=8:=by
      have h1:=hI.tr
      rw[e,trainLen_cons] at h1
      omega
    split at hs
    · cases hs;exact h
    · split at hs
      · cases hs;exact h
      · split at hs
        · cases hs
          intro y hy
          rcases List.mem_append.1 hy with hy|hy
          · exact h y hy
          · obtain rfl:=List.mem_singleton.1 hy
            simpa using hf
        · split at hs
          · cases hs
            unfold Ts.blame
            split
            · exact h
            · exact h
          · cases hs
theorem MainOk.run {c:Cfg}(hc:c.Ok):∀(n:Nat) {s:Ts},s.Inv c->MainOk s->MainOk (s.run c n)
  |0,_,_,h=>h
  |n+1,s,hI,h=>by
    unfold Ts.run
    split
    · exact h
    · rename_i s' hs
      exact MainOk.run hc n (hI.goes hc hs).1 (h.step hI hs)
theorem MainOk.does {c:Cfg}{s:Ts}{r:Rc}(hI:s.Inv c)(hc:c.Ok)(h:MainOk s):MainOk (s.does c r):=by
  unfold Ts.does
  split
  · exact h
  · split
    · exact h
    · split
      · exact h.run hc _ hI
      · split
        · exact h
        · split
          · exact h
          · split
            · exact h
            · exact h
theorem FitsT.mainOk {c:Cfg}{g:ByteArray->ByteArray}{rs:List Rc}(h:FitsT c g rs)(hc:c.Ok):MainOk (Ts.all c g rs):=by
  have key:∀n,n<=rs.length->MainOk (Ts.all c g (rs.take n)):=λn=>by
    induction n with
    |zero=>intro _ y hy;simp[Ts.all,Ts.start] at hy
    |succ n ih=>
      intro hn
      rw[Ts.step_at (by omega)]
      exact MainOk.does ((h.take n).inv hc).1 hc (ih (by omega))
  have:=key rs.length (Nat.le_refl _)
  rwa [List.take_length] at this
section
open Go.Maps
theorem yTree (yb mb n:Nat)(g:ByteArray->ByteArray)(cs:Array Value)(w:World)(hB:Bx w yb 201 cs)(h7:cs[7]? =some (.map (some mb)))(hM:FilesMap w mb n g)(hn:n*32<=140737488355328):
    Calls prog 101 #[.pointer (some ⟨yb,0,none⟩)] w λe w'=>LRes e w w' g n/\Below w.heap.size w w':=by
  obtain⟨D,h1,h2⟩:=hM
  have hL:=list_any mb n D g w h1 h2 hn
  have c7:=hB.cell h7
  clear hB h1 h2
  go_enter func101,ntmps101
  go_wp2_with fail
  go_fit hL
  rintro e w1 ⟨⟨l,b,cap,rfl,hT,hl,hr⟩,hb⟩
  have HR:Hid (LRes (.returned (.slice (some ⟨b,0,none⟩) l.length cap)) w w1 g n):=⟨l,b,cap,rfl,hT,hl,hr⟩
  clear hT hl hr hL
  go_wp2_with fail
  go_ret
  exact⟨HR.out,hb⟩
theorem mTree_up (Y:Nat->Prop)(xb mb n0 rb yb:Nat)(c:Cfg)(s:Ts)(L:List UInt8)(br:Bool)(keep:Int)(lv:Value)(w:World)(hU:UpIs w Y xb mb n0 rb yb c s L br keep lv)(hn:(n0+4*s.outs.length)*32<=140737488355328):
    Calls prog 64 #[.pointer (some ⟨xb,0,none⟩)] w λe w'=>(∃(l:List Fl) (b cap:Nat),e=.returned (.tuple #[.slice (some ⟨b,0,none⟩) l.length cap,.int .i64 0])/\Told l s.tip/\l.length<=n0+4*s.outs.length/\w'.ownsRow w.heap.size 80 2 (.slice (some ⟨b,0,none⟩) l.length cap) l.length (l.flatMap cF))/\Below w.heap.size w w':=by
  obtain⟨q,sb,qv,ov,xt,hy,hx⟩:=hU.yard
  obtain⟨tl,zs,hr⟩:=hy.rest
  have hT:=yTree yb xt.tip (n0+4*s.outs.length) s.tip _ w hy.box rfl (hr.map.more hx) hn
  generalize n0+4*s.outs.length=n at *
  generalize s.tip=g at hT ⊢
  have c9:w.cell? ⟨xb,9,none⟩=some (.pointer (some ⟨rb,0,none⟩)):=hU.box.cell (i:=9) rfl
  have r0:w.cell? ⟨rb,0,none⟩=some (.pointer (some ⟨yb,0,none⟩)):=hU.run.cell (i:=0) rfl
  clear hU hy hr hx hn
  have hTell:Calls prog 100 #[.pointer (some ⟨xb,0,none⟩),.func (.func 101) #[] #[]] w λe w'=>(∃(l:List Fl) (b cap:Nat),e=.returned (.tuple #[.slice (some ⟨b,0,none⟩) l.length cap,.int .i64 0])/\Told l g/\l.length<=n/\w'.ownsRow w.heap.size 80 2 (.slice (some ⟨b,0,none⟩) l.length cap) l.length (l.flatMap cF))/\Below w.heap.size w w':=by
    go_enter func100,ntmps100
    go_wp2_with fail
    go_fit hT
    rintro e w1 ⟨⟨l,b,cap,rfl,h1,h2,h3⟩,hb⟩
    have H1:Hid (Told l g):=h1
    have H3:Hid (w1.ownsRow w.heap.size 80 2 (.slice (some ⟨b,0,none⟩) l.length cap) l.length (l.flatMap cF)):=h3
    clear h1 h3 hT
    go_wp2_with fail
    refine bodyPost_ret (by simp[results,results100,go_sem];rfl) rfl ⟨⟨l,b,cap,by rfl,H1.out,h2,H3.out⟩,hb⟩
  clear hT
  go_enter func64,ntmps64
  go_wp2_with fail
  go_fit hTell
  rintro e w1 ⟨⟨l,b,cap,rfl,h1,h2,h3⟩,hb⟩
  have H1:Hid (Told l g):=h1
  have H3:Hid (w1.ownsRow w.heap.size 80 2 (.slice (some ⟨b,0,none⟩) l.length cap) l.length (l.flatMap cF)):=h3
  clear h1 h3 hTell
  go_wp2_with fail
  refine bodyPost_ret (by simp[results,results64,go_sem];rfl) rfl ⟨⟨l,b,cap,by rfl,H1.out,h2,H3.out⟩,hb⟩
end
section
open Go.Maps
structure Made (w w':World)(xb:Nat)(c:Cfg)(l:List Fl):Prop where
  up:∃Y mb rb yb,UpIs w' Y xb mb l.length rb yb c (Ts.start (standsL l)) [] false 0 (.slice none 0 0)/\FilesMap w' mb l.length (standsL l)/\w.heap.size<=mb/\w.heap.size<=rb/\¬Y mb/\mb≠xb/\mb≠rb/\∀k,Y k->w.heap.size<=k
  new:w.heap.size<=xb
theorem mNew (c:Cfg)(l:List Fl)(fa:Option Addr)(fn fc:Nat)(w:World)(hc:CfgOk c.lanes c.age c.batch c.window c.retries c.deadline c.queue)(hl:FilesAt w (.slice fa fn fc) l)(hn:l.length<8796093022208)(hsz:∀f∈l,f.1.size<=maxLen):
    Calls prog 37 #[.agg #[.int .i64 c.lanes,.int .i64 c.age,.int .i64 c.batch,.int .i64 c.window,.int .i64 c.retries,.int .i64 c.deadline,.int .i64 c.queue],.slice fa fn fc] w λe w'=>((Good okFl Prod.fst l/\∃xb,e=.returned (.tuple #[.pointer (some ⟨xb,0,none⟩),.int .i64 0])/\Made w w' xb c l)\/(¬Good okFl Prod.fst l/\e=.returned (.tuple #[.pointer none,.int .i64 2])))/\Below w.heap.size w w':=by
  have hC:=mConfig c.lanes c.age c.batch c.window c.retries c.deadline c.queue (w.alloc (.cells #[.int .i64 c.lanes,.int .i64 c.age,.int .i64 c.batch,.int .i64 c.window,.int .i64 c.retries,.int .i64 c.deadline,.int .i64 c.queue] 23))
  have HN:Hid (CfgOk c.lanes c.age c.batch c.window c.retries c.deadline c.queue):=hc
  have HL:Hid (FilesAt w (.slice fa fn fc) l):=hl
  clear hc hl
  generalize CfgOk c.lanes c.age c.batch c.window c.retries c.deadline c.queue=p at hC HN
  go_enter func37,ntmps37
  go_wp2_with fail
  go_fit hC
  rintro e w1 ⟨⟨t,rfl,ht⟩,hb1⟩
  obtain rfl:t=true:=ht.2 HN.out
  have X1:Bx w1 w.heap.size 23 #[.int .i64 c.lanes,.int .i64 c.age,.int .i64 c.batch,.int .i64 c.window,.int .i64 c.retries,.int .i64 c.deadline,.int .i64 c.queue]:=(hb1.block _ (by simp)).trans (Bx.new w _ _)
  have HX1:Hid (Bx w1 w.heap.size 23 #[.int .i64 c.lanes,.int .i64 c.age,.int .i64 c.batch,.int .i64 c.window,.int .i64 c.retries,.int .i64 c.deadline,.int .i64 c.queue]):=X1
  have HB:Hid (Below w.heap.size w w1):=(below_new _ _).trans (hb1.mono (by simp))
  have hFr:=from_any l (.slice fa fn fc) w1 (FilesAt.later HL.out HB.out) hn hsz
  clear ht hb1 hC X1
  go_wp2_with fail
  go_fit hFr
  rintro e w2 ⟨hres,hb2⟩
  rcases hres with ⟨rfl,hg,D,hown,hM⟩|⟨rfl,hg⟩
  · have hml:w1.heap.size<w2.heap.size:=hown.lt
    have hX2:=HX1.out.later hb2
    have x0:=hX2.c 0 (.int .i64 c.lanes)
    have x1:=hX2.c 1 (.int .i64 c.age)
    have x2:=hX2.c 2 (.int .i64 c.batch)
    have x3:=hX2.c 3 (.int .i64 c.window)
    have x4:=hX2.c 4 (.int .i64 c.retries)
    have x5:=hX2.c 5 (.int .i64 c.deadline)
    have x6:=hX2.c 6 (.int .i64 c.queue)
    have hSt:=mStart w2.heap.size w1.heap.size l.length (standsL l) c [] (.slice none 0 0) none (w2.alloc (.cells (machCells c w1.heap.size (.slice none 0 0) (.pointer none)) 135)) (Bx.new _ _ _) (Sl.nil _ _ _) (FilesMap.same (w:=w2) ⟨D,hown,hM⟩ ((below_new w2 _).block _ hml))
    have HG:Hid (Good okFl Prod.fst l):=hg
    have HM:Hid (FilesMap w2 w1.heap.size l.length (standsL l)):=⟨D,hown,hM⟩
    have HB2:Hid (Below w.heap.size w w2):=HB.out.trans (hb2.mono HB.out.size)
    have hs1:=HB.out.size
    clear hb2 hFr hg hown hM hX2 HX1
    unfold machCells at hSt
    go_wp2_with fail
    go_fit hSt
    rintro e w4 ⟨rfl,hS4⟩
    have HS4:Hid _:=hS4
    clear hS4 hSt x0 x1 x2 x3 x4 x5 x6
    go_wp2_with fail
    obtain⟨Y,rb,yb,hUp,hrb,hYk⟩:=HS4.out.up
    have hO:=HS4.out.only
    have hw3:∀o,(w2.alloc o).heap.size=w2.heap.size+1:=λo=>by simp
    rw[hw3] at hrb
    have hYk':∀k,Y k->w2.heap.size+1<=k:=λk hk=>by have:=hYk k hk;rwa [hw3] at this
    refine bodyPost_ret (v:=.tuple #[.pointer (some ⟨w2.heap.size,0,none⟩),.int .i64 0]) (by simp[results,results37,go_sem]) rfl ⟨.inl ⟨HG.out,w2.heap.size,rfl,⟨⟨Y,w1.heap.size,rb,yb,hUp,?_,hs1,by omega,λh=>by have:=hYk' _ h;omega,by omega,by omega,λk hk=>by have:=hYk' k hk;omega⟩,by omega⟩⟩,?_⟩
    · obtain⟨D,h1,h2⟩:=HM.out
      obtain⟨es,clock,hh,hr⟩:=h1
      exact⟨D,⟨es,clock,(hO.block _ (by rw[hw3];omega) (by omega)).trans ((Below.heap_alloc _ _ _ hml).trans hh),hr⟩,h2⟩
    · refine HB2.out.trans ⟨hO.os,hO.tape,hO.output,by have:=hO.size;rw[hw3] at this;omega,λk hk=>?_⟩
      rw[hO.block k (by rw[hw3];omega) (by omega),Below.heap_alloc _ _ _ (by omega)]
  · have HG:Hid (¬Good okFl Prod.fst l):=hg
    have HB2:Hid (Below w.heap.size w w2):=HB.out.trans (hb2.mono HB.out.size)
    clear hb2 hFr hg
    go_wp2_with fail
    exact bodyPost_ret (v:=.tuple #[.pointer none,.int .i64 2]) (by simp[results,results37,go_sem]) rfl ⟨.inr ⟨HG.out,rfl⟩,HB2.out⟩
end
theorem mTree_down (xb mb:Nat)(c:Cfg)(L:List UInt8)(lv:Value)(w:World)(hD:DownIs w xb mb c L lv):
    Calls prog 64 #[.pointer (some ⟨xb,0,none⟩)] w λe w'=>e=.returned (.tuple #[.slice none 0 0,.int .i64 8])/\w'=w:=by
  have c9:w.cell? ⟨xb,9,none⟩=some (.pointer none):=hD.box.cell (i:=9) rfl
  clear hD
  have hT:Calls prog 100 #[.pointer (some ⟨xb,0,none⟩),.func (.func 101) #[] #[]] w λe w'=>e=.returned (.tuple #[.slice none 0 0,.int .i64 8])/\w'=w:=by
    go_enter func100,ntmps100
    go_wp2_with fail
    exact bodyPost_ret (v:=.tuple #[.slice none 0 0,.int .i64 8]) (by simp[results,results100,go_sem]) rfl ⟨rfl,rfl⟩
  go_enter func64,ntmps64
  go_wp2_with fail
  go_fit hT
  rintro e w1 ⟨rfl,rfl⟩
  go_wp2_with fail
  exact bodyPost_ret (v:=.tuple #[.slice none 0 0,.int .i64 8]) (by simp[results,results64,go_sem]) rfl ⟨rfl,rfl⟩
theorem mMain_down (xb mb:Nat)(c:Cfg)(L:List UInt8)(lv:Value)(w:World)(hD:DownIs w xb mb c L lv):
    Calls prog 66 #[.pointer (some ⟨xb,0,none⟩)] w λe w'=>e=.returned (.tuple #[.slice none 0 0,.int .i64 8])/\w'=w:=by
  have c9:w.cell? ⟨xb,9,none⟩=some (.pointer none):=hD.box.cell (i:=9) rfl
  clear hD
  have hT:Calls prog 103 #[.pointer (some ⟨xb,0,none⟩),.func (.func 104) #[] #[]] w λe w'=>e=.returned (.tuple #[.slice none 0 0,.int .i64 8])/\w'=w:=by
    go_enter func103,ntmps103
    go_wp2_with fail
    exact bodyPost_ret (v:=.tuple #[.slice none 0 0,.int .i64 8]) (by simp[results,results103,go_sem]) rfl ⟨rfl,rfl⟩
  go_enter func66,ntmps66
  go_wp2_with fail
  go_fit hT
  rintro e w1 ⟨rfl,rfl⟩
  go_wp2_with fail
  exact bodyPost_ret (v:=.tuple #[.slice none 0 0,.int .i64 8]) (by simp[results,results66,go_sem]) rfl ⟨rfl,rfl⟩
theorem mQueue_down (xb mb:Nat)(c:Cfg)(L:List UInt8)(lv:Value)(w:World)(hD:DownIs w xb mb c L lv):
    Calls prog 27 #[.pointer (some ⟨xb,0,none⟩)] w λe w'=>e=.returned (.tuple #[.slice none 0 0,.int .i64 8])/\w'=w:=by
  have c9:w.cell? ⟨xb,9,none⟩=some (.pointer none):=hD.box.cell (i:=9) rfl
  clear hD
  have hT:Calls prog 71 #[.pointer (some ⟨xb,0,none⟩),.func (.func 72) #[] #[]] w λe w'=>e=.returned (.tuple #[.slice none 0 0,.int .i64 8])/\w'=w:=by
    go_enter func71,ntmps71
    go_wp2_with fail
    exact bodyPost_ret (v:=.tuple #[.slice none 0 0,.int .i64 8]) (by simp[results,results71,go_sem]) rfl ⟨rfl,rfl⟩
  go_enter func27,ntmps27
  go_wp2_with fail
  go_fit hT
  rintro e w1 ⟨rfl,rfl⟩
  go_wp2_with fail
  exact bodyPost_ret (v:=.tuple #[.slice none 0 0,.int .i64 8]) (by simp[results,results27,go_sem]) rfl ⟨rfl,rfl⟩
theorem mTrain_down (xb mb:Nat)(c:Cfg)(L:List UInt8)(lv:Value)(w:World)(hD:DownIs w xb mb c L lv):
    Calls prog 69 #[.pointer (some ⟨xb,0,none⟩)] w λe w'=>e=.returned (.tuple #[.slice none 0 0,.int .i64 8])/\w'=w:=by
  have c9:w.cell? ⟨xb,9,none⟩=some (.pointer none):=hD.box.cell (i:=9) rfl
  clear hD
  have hT:Calls prog 105 #[.pointer (some ⟨xb,0,none⟩),.func (.func 106) #[] #[]] w λe w'=>e=.returned (.tuple #[.slice none 0 0,.int .i64 8])/\w'=w:=by
    go_enter func105,ntmps105
    go_wp2_with fail
    exact bodyPost_ret (v:=.tuple #[.slice none 0 0,.int .i64 8]) (by simp[results,results105,go_sem]) rfl ⟨rfl,rfl⟩
  go_enter func69,ntmps69
  go_wp2_with fail
  go_fit hT
  rintro e w1 ⟨rfl,rfl⟩
  go_wp2_with fail
  exact bodyPost_ret (v:=.tuple #[.slice none 0 0,.int .i64 8]) (by simp[results,results69,go_sem]) rfl ⟨rfl,rfl⟩
theorem mJobs_down (xb mb:Nat)(c:Cfg)(L:List UInt8)(lv:Value)(w:World)(hD:DownIs w xb mb c L lv):
    Calls prog 70 #[.pointer (some ⟨xb,0,none⟩)] w λe w'=>e=.returned (.tuple #[.slice none 0 0,.int .i64 8])/\w'=w:=by
  have c9:w.cell? ⟨xb,9,none⟩=some (.pointer none):=hD.box.cell (i:=9) rfl
  clear hD
  have hT:Calls prog 107 #[.pointer (some ⟨xb,0,none⟩),.func (.func 108) #[] #[]] w λe w'=>e=.returned (.tuple #[.slice none 0 0,.int .i64 8])/\w'=w:=by
    go_enter func107,ntmps107
    go_wp2_with fail
    exact bodyPost_ret (v:=.tuple #[.slice none 0 0,.int .i64 8]) (by simp[results,results107,go_sem]) rfl ⟨rfl,rfl⟩
  go_enter func70,ntmps70
  go_wp2_with fail
  go_fit hT
  rintro e w1 ⟨rfl,rfl⟩
  go_wp2_with fail
  exact bodyPost_ret (v:=.tuple #[.slice none 0 0,.int .i64 8]) (by simp[results,results70,go_sem]) rfl ⟨rfl,rfl⟩
theorem info_apw:(prog.info? 71).map (λi=>(i.zero,i.size,i.bytes))=some (some (.agg #[.int .i64 0,.int .i64 0,.int .i64 0]),3,24):=by kernel_rfl
abbrev Tw:=Nat×Nat×Nat
def cT (x:Tw):List Value:=[.int .i64 x.1,.int .i64 x.2.1,.int .i64 x.2.2]
def tOf (x:Pw):Tw:=(x.1.id,x.1.lane,x.1.passed)
theorem yQueue (age:Nat)(ha:1<=age/\age<9)(yb:Nat)(q:List Pw)(v:Value)(cs:Array Value)(w:World)(hB:Bx w yb 201 cs)(h9:cs[9]? =some v)(hS:Sl w 193 6 v q.length (q.flatMap (cP age)))(H:∀x∈q,x.1.lane<1000/\x.1.passed<4611686018427387904/\IsSl x.2)(hn:q.length<=16)(q0:List Pw)(hq0:q0.Perm q)(hd:q0.Pairwise λx y=>ordOf x<ordOf y):
    Calls prog 72 #[.pointer (some ⟨yb,0,none⟩)] w λe w'=>(∃v',e=.returned v'/\w'.ownsRow w.heap.size 71 3 v' q.length (((rkG (laneOf age) q0 1000).map tOf).flatMap cT))/\Below w.heap.size w w':=by
  obtain⟨i0,hi,hz0,hz1,hz2⟩:=info_parts info_apw
  have hR:=yByRank age ha q v w hS H hn q0 hq0 hd
  have c9:=hB.cell h9
  have H0:∀x∈q0,x.1.lane<1000/\x.1.passed<4611686018427387904/\IsSl x.2:=λx hx=>H x (hq0.mem_iff.1 hx)
  have hrl:=(rkG_len (age:=age) H0).trans hq0.length_eq
  have hsl:Hid (∀x∈rkG (laneOf age) q0 1000,IsSl x.2):=λx hx=>(H0 x ((rkG_perm λx hx=>Nat.lt_of_le_of_lt (Nat.sub_le _ _) (H0 x hx).1).mem_iff.1 hx)).2.2
  obtain⟨va,vc,rfl⟩:=hS.form
  clear hB hS H H0 hd hq0 h9
  generalize rkG (laneOf age) q0 1000=r at *
  go_enter func72,ntmps72
  go_wp2_with fail
  go_fit hR
  rintro e w1 ⟨⟨v1,rfl,hs1,_⟩,hb1⟩
  obtain⟨a1,c1,rfl⟩:=hs1.form
  clear hR
  go_wp2_with fail
  have HR1:Hid (Sl w1 193 6 (.slice a1 q.length c1) q.length (r.flatMap (cP age))):=hs1
  have HB1:Hid (Below w.heap.size w w1):=hb1
  clear hs1 hb1 c9
  go_loopw [3,12] (λlv iv wr=>∃k:Nat,k<=q.length/\iv=.int .i64 k/\Hid (wr.ownsRow w1.heap.size 71 3 lv k (((r.take k).map tOf).flatMap cT))/\Hid (Below w1.heap.size w1 wr)) (λ_ i _=>q.length-(intOf i).toNat)
  case atStart=>exact⟨0,Nat.zero_le _,rfl,World.ownsRow_nil _ _ _ _,Below.refl _ _⟩
  case round=>
    obtain⟨k,hk,rfl,hr,hb⟩:=hrel
    by_cases hlk:k<q.length
    · have hlr:k<r.length:=by omega
      obtain⟨g,off,cap,hv,_⟩:=HR1.out.addr (by omega)
      have hS:Hid (Sl w1 193 6 (.slice (some ⟨g,off,none⟩) q.length cap) q.length (r.flatMap (cP age))):=by have:=HR1.out;rw[hv] at this;exact this
      injection hv with hva _ hvc
      subst hva hvc
      have kk:∀j (u:Value),j<6->(cP age r[k])[j]? =some u->wr.cell? ⟨g,off+k*6+j,none⟩=some u:=λj u hj hu=>by
        have:=hS.out.cell (j:=k*6+j) (u:=u) (by rw[flat_get (cP age) 6 (λ_=>rfl) r k j hlr hj];exact hu)
        rw[Nat.add_assoc];exact jcell_after hb.out this
      obtain⟨ea,en,ec,he⟩:=hsl.out _ (List.getElem_mem hlr)
      have d0:wr.cell? ⟨g,off+k*6,none⟩=some (.int .i64 r[k].1.id):=kk 0 _ (by decide) rfl
      have d1:=kk 1 (.int .i64 r[k].1.lane) (by decide) rfl
      have d2:=kk 2 (.int .i64 r[k].1.passed) (by decide) rfl
      have d3:=kk 3 (.int .i64 age) (by decide) rfl
      have d4:=kk 4 (.int .i64 r[k].1.ord) (by decide) rfl
      have d5:=kk 5 (.slice ea en ec) (by decide) (by rw[<-he];rfl)
      have HW:Hid (((r.take (k+1)).map tOf).flatMap cT=((r.take k).map tOf).flatMap cT++[.int .i64 r[k].1.id,.int .i64 r[k].1.lane,.int .i64 r[k].1.passed]):=by
        show _=_
        rw[List.take_succ_eq_append_getElem hlr,List.map_append,List.flatMap_append];simp[cT,tOf]
      generalize r[k].1.id=x0 at *
      generalize r[k].1.lane=x1 at *
      generalize r[k].1.passed=x2 at *
      generalize r[k].1.ord=x4 at *
      clear he kk
      have q1:Hid (k+1<=maxLen):=by show _<=_;unfold maxLen;omega
      have q2:Hid ((k+1)*24<=140737488355328):=by show _<=_;omega
      have q3:Hid (∀o o',w1.heap.size<=((wr.alloc o).alloc o').heap.size):=λo o'=>by
        have:=hb.out.size
        show w1.heap.size<=_
        simp;omega
      go_wp2_with (at_builtin;refine wpList_append_own_at _ rfl (.tmp 16) (.tmp 19) _ rfl w1.heap.size _ i0 _ 3 24 underlying61 hi hz0 hz1 hz2 rfl (by decide) u3 _ _ rfl (World.ownsRow.alloc (World.ownsRow.alloc hr.out _) _) ⟨wr.heap.size+1,0,none⟩ 1 1 [.int .i64 x0,.int .i64 x1,.int .i64 x2] rfl rfl (cells_new2 wr _ _ _) (by simp[Value.oneCell']) q1.out q2.out (q3.out _ _) ?_;intro v3 w3 hown3 hg3 hnil3 hloc3)
      refine⟨⟨k+1,hlk,by go_num,?_,?_⟩,by simp[intOf];omega⟩
      · show w3.ownsRow _ _ _ _ _ _
        rw[HW.out]
        exact hown3
      · exact((hb.out.alloc hb.out.size _).alloc (q3' hb.out _) _).grown hg3 (q3.out _ _) (λj hj=>(World.ownsRow.lt hr.out j hj).1)
    · obtain rfl:k=q.length:=by omega
      have hr':Hid (wr.ownsRow w.heap.size 71 3 u3 q.length ((r.map tOf).flatMap cT)):=by
        have:=row_low hr.out (base':=w.heap.size) HB1.out.size
        rwa [List.take_of_length_le (by omega)] at this
      have HB:Hid (Below w.heap.size w wr):=below_trans HB1.out hb.out
      obtain⟨a4,c4,rfl⟩:=row_shape3 hr'.out
      clear hr
      go_wp2_with fail
      go_ret
      exact⟨⟨_,rfl,hr'.out⟩,HB.out⟩
def tC (x:Ch):Tw:=(x.id,x.lane,x.passed)
def tellQ (age:Nat)(q:List Ch):List Tw:=(rkG (laneC age) q 4).map tC
theorem tellQ_len {age:Nat}{q:List Ch}(hl:∀x∈q,x.lane<4):(tellQ age q).length=q.length:=by
  rw[tellQ,List.length_map]
  exact(rkG_perm λx hx=>Nat.lt_of_le_of_lt (Nat.sub_le _ _) (hl x hx)).length_eq
def ToldQ (w w':World)(e:Ending)(age:Nat)(q:List Ch):Prop:=∃v',e=.returned (.tuple #[v',.int .i64 0])/\w'.ownsRow w.heap.size 71 3 v' (tellQ age q).length ((tellQ age q).flatMap cT)
theorem mQueue_up (Y:Nat->Prop)(xb mb n0 rb yb:Nat)(c:Cfg)(s:Ts)(L:List UInt8)(br:Bool)(keep:Int)(lv:Value)(w:World)(hU:UpIs w Y xb mb n0 rb yb c s L br keep lv)(hI:s.Inv c)(hc:c.Ok)(hi:s.ids.length<1048576000):
    Calls prog 27 #[.pointer (some ⟨xb,0,none⟩)] w λe w'=>ToldQ w w' e c.age s.queue/\Below w.heap.size w w':=by
  obtain⟨q,sb,qv,ov,xt,hy,hx⟩:=hU.yard
  obtain⟨q0,hp,hq0,hd,hrk,hrp⟩:=hy.ranks hI hc
  obtain⟨H,hn⟩:=hy.small hI hc hi
  have hT:=yQueue c.age ⟨hc.2.1.1,by have:=hc.2.1.2;omega⟩ yb q qv _ w hy.box rfl hy.que.row H hn q0 hp hd
  have hl4:∀x∈s.queue,x.lane<4:=λx hx=>by have:=(hI.top x hx).2.1;have:=hc.1.2;omega
  have he:(rkG (laneOf c.age) q0 1000).map tOf=tellQ c.age s.queue:=by
    have:tellQ c.age s.queue=(s.ranked c).map tC:=rfl
    rw[this,<-hrk,List.map_map];rfl
  rw[he,hy.qlen,<-tellQ_len (age:=c.age) hl4] at hT
  have c9:w.cell? ⟨xb,9,none⟩=some (.pointer (some ⟨rb,0,none⟩)):=hU.box.cell (i:=9) rfl
  have r0:w.cell? ⟨rb,0,none⟩=some (.pointer (some ⟨yb,0,none⟩)):=hU.run.cell (i:=0) rfl
  clear hU hy hI hl4 he hrk hrp hq0 hd hp H hn hx
  unfold ToldQ
  generalize tellQ c.age s.queue=tq at *
  have hTell:Calls prog 71 #[.pointer (some ⟨xb,0,none⟩),.func (.func 72) #[] #[]] w λe w'=>(∃v',e=.returned (.tuple #[v',.int .i64 0])/\w'.ownsRow w.heap.size 71 3 v' tq.length (tq.flatMap cT))/\Below w.heap.size w w':=by
    go_enter func71,ntmps71
    go_wp2_with fail
    go_fit hT
    rintro e w1 ⟨⟨v1,rfl,h3⟩,hb⟩
    obtain⟨a1,c1,rfl⟩:=row_shape3 h3
    have H3:Hid (w1.ownsRow w.heap.size 71 3 (.slice a1 tq.length c1) tq.length (tq.flatMap cT)):=h3
    clear h3 hT
    go_wp2_with fail
    refine bodyPost_ret (by simp[results,results71,go_sem];rfl) rfl ⟨⟨_,by rfl,H3.out⟩,hb⟩
  clear hT
  go_enter func27,ntmps27
  go_wp2_with fail
  go_fit hTell
  rintro e w1 ⟨⟨v1,rfl,h3⟩,hb⟩
  obtain⟨a1,c1,rfl⟩:=row_shape3 h3
  have H3:Hid (w1.ownsRow w.heap.size 71 3 (.slice a1 tq.length c1) tq.length (tq.flatMap cT)):=h3
  clear h3 hTell
  go_wp2_with fail
  refine bodyPost_ret (by simp[results,results27,go_sem];rfl) rfl ⟨⟨_,by rfl,H3.out⟩,hb⟩
end Go.Proofs.YtgamgomepdfgdaaGreat
