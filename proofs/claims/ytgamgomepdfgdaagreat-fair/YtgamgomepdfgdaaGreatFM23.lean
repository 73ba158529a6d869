import Derived.Test.YtgamgomepdfgdaaGreatFM22
set_option maxRecDepth 100000
set_option maxHeartbeats 8000000
namespace Go.Proofs.YtgamgomepdfgdaaGreat
open Go.RowKit Go.Proofs.Tryz
section
open Go.Shelf
attribute [local go_sem] Oper.semAt_some
theorem setClone2 (mb:Nat)(es:Array MapEntry)(clock:Nat)(w:World)(hb:w.heap[mb]? =some (.map es clock)):
    Calls prog 208 #[.map (some mb)] w λe w'=>e=.returned (.map (some w.heap.size))/\w'=w.alloc (.map es clock):=by
  go_enter func208,ntmps208
  go_wp2_with fail
  go_fit (mapsClone mb es clock w hb)
  rintro e w1 ⟨rfl,rfl⟩
  go_wp2_with fail
  go_ret
  exact⟨rfl,rfl⟩
theorem wpIn_plain {n:Nat}{P:Program}{x:Code}{K:Act->World->Prop}{Q:Exit->Act->World->Prop}{a:Act}{w:World}(h:x.wp P (Exit.then K λ_ _ _=>False) a w):x.wpIn Fence.wide n P (Exit.then K Q) a w:=
  wpIn_mono (wpIn_wide.2 h) λe a w hq=>by cases e<;>first|exact hq|exact hq.elim
theorem wpIn_ends {F:Fence}{n:Nat}{P:Program}{x:Code}{Q:Exit->Act->World->Prop}{a:Act}{w:World}(R:World->Prop)(hR:∀a W',R W'->Q .normal a W')(h:x.wpIn F n P (λe _ W'=>e=.normal/\R W') a w):x.wpIn F n P Q a w:=
  wpIn_mono h λe a W' hq=>by
    obtain⟨rfl,hr⟩:=hq
    exact hR a W' hr
theorem keep_alloc {w:World}{k:Nat}{o0:Obj}(h:w.heap[k]? =some o0)(o:Obj):(w.alloc o).heap[k]? =some o0:=((below_new w o).block k (Array.getElem?_eq_some_iff.1 h).1).trans h
theorem three_new (w:World)(A B C:Obj):(((w.alloc A).alloc B).alloc C).heap[w.heap.size]? =some A/\(((w.alloc A).alloc B).alloc C).heap[w.heap.size+1]? =some B/\(((w.alloc A).alloc B).alloc C).heap[w.heap.size+1+1]? =some C/\Below w.heap.size w (((w.alloc A).alloc B).alloc C):=by
  have h1:(w.alloc A).heap.size=w.heap.size+1:=World.size_alloc ..
  have h2:((w.alloc A).alloc B).heap.size=w.heap.size+1+1:=by rw[World.size_alloc,h1]
  have e1:=World.alloc_heap_new w A
  have e2:=World.alloc_heap_new (w.alloc A) B
  have e3:=World.alloc_heap_new ((w.alloc A).alloc B) C
  rw[h1] at e2
  rw[h2] at e3
  exact⟨keep_alloc (keep_alloc e1 _) _,keep_alloc e2 _,e3,((below_new w _).trans ((below_new _ _).mono (by omega))).trans ((below_new _ _).mono (by omega))⟩
def RoomIs (w W:World)(es:Array MapEntry)(clock:Nat)(win:Nat)(b2 b3 bm:Nat):Prop:=
  Below w.heap.size w W/\w.heap.size<=b2/\w.heap.size<=b3/\Bx W b2 132 #[.map (some bm)]/\Bx W b3 3 #[.int .i64 win]/\W.heap[bm]? =some (.map es clock)/\w.heap.size<=bm
set_option linter.unusedSimpArgs false in
theorem tBegin {S:Nat->Prop}{yb mb n0:Nat}{c:Cfg}{s:Ts}{w:World}{q:List Pw}{sb:Nat}{qv ov:Value}{x:Xt}(h:YardIs w S yb mb n0 c s q sb qv ov x)(hx:x.n<=n0+4*s.outs.length)(hI:s.Inv c)(hc:c.Ok)(hi:s.ids.length<1048575000)(h0:n0<1048576000)(hbg:s.begun<1048576000)(hnw:s.now<1048576000):
    Calls prog 172 #[ptr yb] w λe w'=>e=.returned (.tuple #[])/\YardAt w' (Plus S w) yb mb n0 c (s.begin c)/\OnlyT w w' S [201,240]:=by
  obtain⟨tl,zs,hZ⟩:=h.z
  obtain⟨D,⟨es,clock,hm,hF⟩,hD⟩:=hZ.rest.map
  have hml:x.tip<w.heap.size:=(Array.getElem?_eq_some_iff.1 hm).1
  have hyl:=h.box.lt
  have hZ1:=hZ.later (below_new w (.cells #[.pointer (some ⟨yb,0,none⟩)] 130))
  have y7:(w.alloc (.cells #[.pointer (some ⟨yb,0,none⟩)] 130)).cell? ⟨yb,7,none⟩=some (.map (some x.tip)):=hZ1.is.box.cell (i:=7) rfl
  have y3:(w.alloc (.cells #[.pointer (some ⟨yb,0,none⟩)] 130)).cell? ⟨yb,3,none⟩=some (.int .i64 c.window):=hZ1.is.box.cell (i:=3) rfl
  have b0:(w.alloc (.cells #[.pointer (some ⟨yb,0,none⟩)] 130)).cell? ⟨w.heap.size,0,none⟩=some (.pointer (some ⟨yb,0,none⟩)):=(Bx.new w #[.pointer (some ⟨yb,0,none⟩)] 130).cell (i:=0) rfl
  have HSz:Hid ((w.alloc (.cells #[.pointer (some ⟨yb,0,none⟩)] 130)).heap.size=w.heap.size+1):=by
    show _=_
    simp
  have HBm:Hid ((w.alloc (.cells #[.pointer (some ⟨yb,0,none⟩)] 130)).heap[x.tip]? =some (.map es clock)):=(below_new w _).block _ hml|>.trans hm
  have hB1:Hid (Below w.heap.size w (w.alloc (.cells #[.pointer (some ⟨yb,0,none⟩)] 130))):=below_new _ _
  have HZ:Hid (YardZ w S yb mb n0 c s q sb qv ov x tl zs):=hZ
  have HM0:Hid (∀W bm,W.heap[bm]? =some (.map es clock)->FilesMap W bm x.n s.tip):=λW bm hb=>⟨D,⟨es,clock,hb,hF⟩,hD⟩
  have HI:Hid (s.Inv c):=hI
  have HX:Hid (x.n<=n0+4*s.outs.length):=hx
  have HMe:Hid (Bx (w.alloc (.cells #[.pointer (some ⟨yb,0,none⟩)] 130)) w.heap.size 130 #[.pointer (some ⟨yb,0,none⟩)]):=Bx.new _ _ _
  have hfew:zs.length<=8:=by
    have h1:=seg_count hI.sm
    have h2:=hI.tr
    have h3:(zs.map Prod.snd).length=s.segs.length:=by rw[hZ.rest.train.snd]
    rw[List.length_map] at h3
    omega
  clear hZ hZ1 h hF hD hI hx hm
  unfold ptr
  refine(callsIn_wide (n:=3)).1 ?_
  refine callsIn_of_wp_marks func172 rfl trivial ?_ rfl
  simp only[ntmps172,List.size_toArray,List.length_cons,List.length_nil,Nat.reduceAdd,Nat.reduceSub,Array.replicate_succ,Array.replicate_zero,List.push_toArray,List.append_toArray,List.nil_append,List.cons_append]
  gi_upto_region 1 with fail
  generalize w.alloc (.cells #[.pointer (some ⟨yb,0,none⟩)] 130)=w1 at *
  gi_cut [2,3] from 4 (λv2 v3 wz=>∃b2 b3 bm,v2=.pointer (some ⟨b2,0,none⟩)/\v3=.pointer (some ⟨b3,0,none⟩)/\Hid (RoomIs w1 wz es clock c.window b2 b3 bm))
  case first=>
    have ny1:w1.heap.size≠yb:=by have:=HSz.out;omega
    have ny2:w1.heap.size+1≠yb:=by have:=HSz.out;omega
    have ny3:w1.heap.size+1+1≠yb:=by have:=HSz.out;omega
    have nw1:w1.heap.size≠w.heap.size:=by have:=HSz.out;omega
    have nw2:w1.heap.size+1≠w.heap.size:=by have:=HSz.out;omega
    have nw3:w1.heap.size+1+1≠w.heap.size:=by have:=HSz.out;omega
    refine wpIn_plain ?_
    go_region_held_law (λw'=>w'.cell? ⟨w.heap.size,0,none⟩=some (.pointer (some ⟨yb,0,none⟩))/\w'.cell? ⟨yb,7,none⟩=some (.map (some x.tip))/\w'.cell? ⟨yb,3,none⟩=some (.int .i64 c.window)) (simp (maxDischargeDepth:=9) [*,World.cell?_alloc_some]) ((go_at_call 208;refine(setClone2 x.tip es clock _ (by repeat (first|exact HBm.out|refine keep_alloc ?_ _))).mono ?_;rintro e w4 ⟨rfl,rfl⟩))
    all_goals
      go_wp2_with fail
      go_meet
      case rel=>
        obtain⟨ha,hb,hc,hB⟩:=three_new w1 _ _ _
        exact⟨_,_,_,rfl,rfl,⟨hB.os,hB.tape,hB.output,hB.size,hB.block⟩,by omega,by omega,by first|exact ha|exact hb|exact hc,by first|exact ha|exact hb|exact hc,by first|exact ha|exact hb|exact hc,by omega⟩
  case rest=>
    obtain⟨b2,b3,bm,rfl,rfl,HRm⟩:=hcut
    obtain⟨hbw,hb2,hb3,hB2,hB3,hBM,hbm⟩:=HRm.out
    have hbc:Below w.heap.size w wc:=hB1.out.trans (hbw.mono hB1.out.size)
    have hZc:=HZ.out.later hbc
    obtain⟨ta,tcap,htv⟩:=hZc.rest.train.row.form
    have hpl:(zs.map Prod.fst).length=zs.length:=List.length_map _
    have c11:wc.cell? ⟨yb,11,none⟩=some (.slice ta zs.length tcap):=by rw[<-htv];exact hZc.is.box.cell (i:=11) rfl
    have HRow:Hid (Sl wc 210 1 (.slice ta zs.length tcap) zs.length ((zs.map Prod.fst).map ptr)):=by
      have:=hZc.rest.train.row
      rw[htv] at this
      show Sl _ _ _ _ _ _
      rw[List.map_map]
      exact this
    have hB0:Hid (Below wc.heap.size wc (wc.alloc (.cells #[.slice ta zs.length tcap] 195))):=below_new _ _
    have HTV:Hid (x.tv=.slice ta zs.length tcap):=htv
    have hSz:=HSz.out
    have hme:Bx wc w.heap.size 130 #[.pointer (some ⟨yb,0,none⟩)]:=(hbw.block _ HMe.out.lt).trans HMe.out
    have bme:=hme.cell (i:=0) rfl
    have hl2:b2<wc.heap.size:=hB2.lt
    have hl3:b3<wc.heap.size:=hB3.lt
    have hlm:bm<wc.heap.size:=(Array.getElem?_eq_some_iff.1 hBM).1
    have hwc:w1.heap.size<=wc.heap.size:=hbw.size
    have hS0:wc.heap.size+1=(wc.alloc (.cells #[.slice ta zs.length tcap] 195)).heap.size:=(World.size_alloc ..).symm
    have HI0:Hid (BegIs w (wc.alloc (.cells #[.slice ta zs.length tcap] 195)) S yb n0 c s qv sb ov x zs b2 bm (bs0 c s zs)/\Bx (wc.alloc (.cells #[.slice ta zs.length tcap] 195)) b3 3 #[.int .i64 c.window]/\FilesMap (wc.alloc (.cells #[.slice ta zs.length tcap] 195)) bm (x.n+32*0) s.tip):=by
      have hbn:Below w.heap.size w (wc.alloc (.cells #[.slice ta zs.length tcap] 195)):=hbc.trans (hB0.out.mono hbc.size)
      have hZn:=HZ.out.later hbn
      refine⟨⟨OnlyT.below hbn,hZn.is.box,λz hz=>?_,hB2.mk _,?_⟩,hB3.mk _,HM0.out _ _ (keep_alloc hBM _)⟩
      · have:=(hZn.rest.train.segs z hz).kept (λ_ _ _=>rfl) (Plus.old w) (Nat.le_refl _)
        rwa [show (z.1,(bs0 c s zs).sg z.1)=z by show (z.1,sgOf zs z.1)=z;rw[sgOf_mem HZ.out.rest.train.nd hz]]
      · exact hme.mk _
    have HB2:Hid (w.heap.size<=b2/\w.heap.size<=b3/\w.heap.size<=bm):=by
      show _/\_/\_
      omega
    clear HRm hbw hB2 hB3 hBM hbc hZc htv hb2 hb3 hbm hme
    gi_wp2_with (refine⟨trivial,?_⟩;gi_at_call 147;refine(callsIn_wide.2 (lineAll yb ta zs.length tcap wc c11)).mono ?_;rintro e w' ⟨rfl,rfl⟩)
    generalize hwn:wc.alloc (.cells #[.slice ta zs.length tcap] 195)=wn at *
    have hcB:wn.cell? ⟨wc.heap.size,0,none⟩=some (.slice ta zs.length tcap):=by rw[<-hwn];simp
    have HRn:Hid (Sl wn 210 1 (.slice ta zs.length tcap) (zs.map Prod.fst).length ((zs.map Prod.fst).map ptr)):=by
      show Sl _ _ _ _ _ _
      rw[hpl];exact HRow.out.later hB0.out
    clear hwn
    refine wpIn_rangeFunc_ownG (α:=Pt (zs.map Prod.fst)) (n:=3) (F:=Fence.wide) rfl (by decide) (gf:=223) (lb:=#[.pointer (some ⟨wc.heap.size,0,none⟩)]) rfl trivial (enters_of func223 (by kernel_rfl) rfl)
      (sv_stops Fence.wide 2 trivial rfl (by decide) wc.heap.size (.slice ta zs.length tcap) (zs.map Prod.fst) (by rw[hpl];omega) wn (by omega) hcB HRn.out) kpOf_t (kpOf_b λg hg=>HRn.out.lt hg) (Below.refl _ _) (λ_=>rfl)
      (λpre W=>BegInv w W S yb n0 c s qv sb ov x zs b2 b3 bm (pre.map Subtype.val)) (λcd pre W=>BegEnd w W S yb n0 c s qv sb ov x zs b2 bm cd (pre.map Subtype.val)) (BegInv.own (by omega) (by omega) (by omega) (by omega) (by omega)) (λcd=>BegEnd.own (by omega) (by omega) (by omega) cd) ⟨HI0.out.1,HI0.out.2.1,HI0.out.2.2,trivial⟩
      (λy=>{tmps:=#[.pointer (some ⟨yb,0,none⟩),.pointer (some ⟨w.heap.size,0,none⟩),.pointer (some ⟨b2,0,none⟩),.pointer (some ⟨b3,0,none⟩),.pointer (some ⟨y.1,0,none⟩),u5,u6,u7,u8,u9,u10,u11,u12,u13,u14,.pointer (some ⟨yb,0,none⟩),.pointer (some ⟨yb,0,none⟩),.pointer (some ⟨yb,11,none⟩),.func (.func 223) #[] #[.pointer (some ⟨wc.heap.size,0,none⟩)],.pointer (some ⟨y.1,0,none⟩),u20,u21,u22,u23,u24,u25,u26,u27,u28,u29,u30,u31,u32,u33,u34,u35,u36,u37,u38,u39,u40,u41,u42,u43,u44,u45,u46,u47,u48,u49,u50,u51,u52,u53,u54,u55,u56,u57,u58,u59,u60,u61,u62,u63,u64,u65,u66,u67,u68,u69,u70,u71,u72,u73,u74,u75,u76,u77],defers:=[]}) ?assign ?body ?done ?stop
    case assign=>
      intro l y W K hK
      unfold ptr
      gi_wp2
      exact hK
    case body=>
      rintro l pre ⟨p,hp⟩ W ⟨hB,hR3,hM,hG⟩ hpre
      obtain⟨⟨p',y⟩,hz,rfl⟩:=List.mem_map.1 hp
      have HG:Hid ((bs0 c s zs).goes c s.now (pre.map Subtype.val)):=hG
      have hsame:=Bs.all_same c s.now (pre.map Subtype.val) (bs0 c s zs) p'
      rw[show (bs0 c s zs).sg p'=y from sgOf_mem HZ.out.rest.train.nd hz] at hsame
      have HSm:Hid (SmOk c s.begun s.now y):=HI.out.sm y (by rw[<-HZ.out.rest.train.snd];exact List.mem_map_of_mem hz)
      rw[List.length_map] at hM
      generalize ht:(bs0 c s zs).all c s.now (pre.map Subtype.val)=t at hB hR3 hM hsame
      have Ht:Hid ((bs0 c s zs).all c s.now (pre.map Subtype.val)=t):=ht
      obtain⟨cv,jv,cl,hseg⟩:=hB.segs (p',y) hz
      simp only at hseg
      have hb3:=hR3.cell (i:=0) rfl
      have hb2:=hB.box.cell (i:=0) rfl
      have hbme:=hB.me.cell (i:=0) rfl
      have HB:Hid (BegIs w W S yb n0 c s qv sb ov x zs b2 bm t):=hB
      have HR3:Hid (Bx W b3 3 #[.int .i64 t.r]):=hR3
      have HM:Hid (FilesMap W bm (x.n+32*pre.length) t.g):=hM
      have HSeg:Hid (SegIs W (Plus S w) (s.top n0) p' (t.sg p') cv jv cl):=hseg
      have HSame:Hid ((t.sg p').l=y.l/\(t.sg p').fails=y.fails/\(t.sg p').by_=y.by_):=hsame
      clear hB hR3 hM hseg hG ht hsame
      by_cases hr:t.r=0
      · have q1:((t.r:Int)==0)=true:=by simp[hr]
        have HN:Hid (∀n,BegEnd w (W.drewN n) S yb n0 c s qv sb ov x zs b2 bm .ret ((pre++[(⟨p',hp⟩:Pt (zs.map Prod.fst))]).map Subtype.val)):=λn=>by
          refine⟨rfl,pre.map Subtype.val,p',by simp,?_,HG.out,?_⟩
          · rw[Ht.out];exact HB.out.drewN n
          · rw[Ht.out];exact λh=>h.1 hr
        rw[hr] at hb3
        refine wpIn_block (wpIn_seq (wpIn_seq (wpIn_round_quiet rfl (by kernel_rfl) rfl ?_)))
        repeat (first|go_big_quiet_step (fail)|quiet_step (fail))
        refine wpQuiet_nil ?_
        rintro _ ⟨nq,rfl⟩
        show Code.wpIn _ _ _ _ _ _ _
        gi_wp2
        exact⟨keeps_drew _ _,HN.out nq⟩
      · have hne:((t.r:Int)==0)=false:=by simp;omega
        have HLen:Hid (y.l.length<=8):=by
          show _<=_
          have h1:=HI.out.tr
          have h2:y.l.length<=trainLen s.segs:=seg_len (by rw[<-HZ.out.rest.train.snd];exact List.mem_map_of_mem hz)
          omega
        have HOu:Hid (s.outs.length<=s.ids.length):=by
          show _<=_
          have:=HI.out.cnt
          omega
        obtain⟨ca,ccap,rfl⟩:=HSeg.out.chs.row.form
        have c0:W.cell? ⟨p',0,none⟩=some (.slice ca cl.length ccap):=HSeg.out.box.cell (i:=0) rfl
        have hsd:SegIs W.drew (Plus S w) (s.top n0) p' (t.sg p') (.slice ca cl.length ccap) jv cl:=⟨HSeg.out.box,HSeg.out.chs.keptT (KeepT.drewN W 1) (λ_ h=>h) (by decide) (by decide),HSeg.out.job.keptT (KeepT.drewN W 1) (λ_ h=>h) (Nat.le_refl _) (by decide) (by decide),HSeg.out.own⟩
        have hA:=segApply (Plus S w) (s.top n0) p' bm (x.n+32*pre.length) (t.sg p') _ jv cl t.g W.drew hsd (HM.out.same rfl) (by rw[HSame.out.1];exact λy hy=>(HSm.out.eds y hy).2) (by rw[HSame.out.1];exact HLen.out) (by have:=HX.out;have:=HOu.out;omega)
        unfold ptr at hA
        refine wpIn_block (wpIn_seq (wpIn_seq (wpIn_round_held (S:=λw'=>w'.cell? ⟨b3,0,none⟩=some (.int .i64 t.r)/\w'.cell? ⟨b2,0,none⟩=some (.map (some bm))/\w'.cell? ⟨p',0,none⟩=some (.slice ca cl.length ccap)/\w'.cell? ⟨w.heap.size,0,none⟩=some (.pointer (some ⟨yb,0,none⟩))) rfl rfl (λ⟨_,_,h⟩=>h) ⟨hb3,hb2,c0,hbme⟩ (λhHeld=>?_))))
        refine tk 0 ?_
        refine tk 1 ?_
        refine tk 2 ?_
        refine tk 3 ?_
        refine tk 4 ?_
        refine tk 6 ?_
        refine tk 7 ?_
        refine tk 8 ?_
        refine tk 9 ?_
        refine tk 10 ?_
        refine wpAnyH_ready (rs:=[5]) (by kernel_rfl) (by simp) ?_
        refine AllReadyH.cons rfl (λK hK=>?_) AllReadyH.nil
        go_simp
        go_wp2_with (go_at_call 209;refine hA.mono ?_;rintro e w5 ⟨rfl,hM5,hg5⟩)
        have k5:∀k,k<W.heap.size->k≠bm->w5.heap[k]? =W.heap[k]? :=λk hk hn=>hg5.block k hk (λe=>hn (by simpa using e))
        have B3:Bx w5 b3 3 #[.int .i64 t.r]:=(k5 _ HR3.out.lt (HM.out.ne_box HR3.out).symm).trans HR3.out
        have B2:Bx w5 b2 132 #[.map (some bm)]:=(k5 _ HB.out.box.lt (HM.out.ne_box HB.out.box).symm).trans HB.out.box
        have BP:Bx w5 p' 240 (segCells (.slice ca cl.length ccap) (t.sg p').fails (t.sg p').by_ jv):=(k5 _ HSeg.out.box.lt (HM.out.ne_box HSeg.out.box).symm).trans HSeg.out.box
        have BM:Bx w5 w.heap.size 130 #[.pointer (some ⟨yb,0,none⟩)]:=(k5 _ HB.out.me.lt (HM.out.ne_box HB.out.me).symm).trans HB.out.me
        have BY:Bx w5 yb 201 (yardCells c x t.b s.now qv sb s.outs.length ov):=(k5 _ HB.out.yard.lt (HM.out.ne_box HB.out.yard).symm).trans HB.out.yard
        refine hK.out _ _ ⟨B3.cell (i:=0) rfl,B2.cell (i:=0) rfl,BP.cell (i:=0) rfl,BM.cell (i:=0) rfl⟩ (λhHeld=>?_)
        clear hK K
        have hcl:cl.length=(t.sg p').l.length:=chs_len HSeg.out.chs
        have HO5:Hid (Only W w5 (λk=>k=bm)):=⟨hg5.os,hg5.tape,hg5.output,hg5.size,λk hk hn=>k5 k hk hn⟩
        have HM5:Hid ((makes t.g (t.sg p').l).2=(t.sg p').l.length->FilesMap w5 bm (x.n+32*pre.length+4*(t.sg p').l.length) (makes t.g (t.sg p').l).1):=hM5
        have HB5:Hid (Bx w5 b3 3 #[.int .i64 t.r]/\Bx w5 b2 132 #[.map (some bm)]/\Bx w5 p' 240 (segCells (.slice ca cl.length ccap) (t.sg p').fails (t.sg p').by_ jv)/\Bx w5 w.heap.size 130 #[.pointer (some ⟨yb,0,none⟩)]/\Bx w5 yb 201 (yardCells c x t.b s.now qv sb s.outs.length ov)):=⟨B3,B2,BP,BM,BY⟩
        have hfail:=yFailed yb p' (t.sg p').fails c.retries _ _ w5 BY rfl BP rfl (decide (c.retries<(t.sg p').fails)) rfl
        have HEnd:Hid (¬t.go c p'->∀W',Only W W' (λk=>k=bm)->KeepsFrom wn.heap.size W W'/\BegEnd w W' S yb n0 c s qv sb ov x zs b2 bm .ret ((pre++[(⟨p',hp⟩:Pt (zs.map Prod.fst))]).map Subtype.val)):=λhn W' hO=>by
          refine⟨keeps_below hO λk e=>by omega,rfl,pre.map Subtype.val,p',by simp,?_,HG.out,?_⟩
          · rw[Ht.out];exact HB.out.bmOnly HM.out HB2.out.2.2 hO
          · rw[Ht.out];exact hn
        have hmk:=makes_le (t.sg p').l t.g
        unfold ptr at hfail
        clear hM5 hg5 k5 B3 B2 BP BM BY hA hsd
        generalize hk0:(makes t.g (t.sg p').l).2=k0 at *
        have HK0:Hid ((makes t.g (t.sg p').l).2=k0):=hk0
        have HCl:Hid (cl.length=(t.sg p').l.length):=hcl
        clear hk0 hcl
        by_cases hlt:k0<(t.sg p').l.length
        · have qd:decide ((k0:Int)<(cl.length:Int))=true:=by rw[decide_eq_true_iff];have:=HCl.out;omega
          have ql:(k0:Int)<(cl.length:Int):=by have:=HCl.out;omega
          refine tk 11 ?_
          refine tk 12 ?_
          refine tk 13 ?_
          refine wpAnyH_take (i:=14) (v:=undef) rfl (by kernel_rfl) (by kernel_rfl) (by kernel_rfl) (λ_ _ _ h=>h) (Or.inr ⟨by rfl,rfl⟩) (by assumption) ?_
          try simp only[Act.put,List.getElem_toArray,List.getElem_cons_zero,List.getElem_cons_succ,List.setIfInBounds_toArray,List.set_cons_zero,List.set_cons_succ]
          refine wpAnyH_take (i:=15) (v:=undef) rfl (by kernel_rfl) (by kernel_rfl) (by kernel_rfl) (λ_ _ _ h=>h) (Or.inr ⟨by rfl,rfl⟩) (by assumption) ?_
          try simp only[Act.put,List.getElem_toArray,List.getElem_cons_zero,List.getElem_cons_succ,List.setIfInBounds_toArray,List.set_cons_zero,List.set_cons_succ]
          refine wpAnyH_take (i:=16) (v:=undef) rfl (by kernel_rfl) (by kernel_rfl) (by kernel_rfl) (λ_ _ _ h=>h) (Or.inr ⟨by rfl,rfl⟩) (by assumption) ?_
          try simp only[Act.put,List.getElem_toArray,List.getElem_cons_zero,List.getElem_cons_succ,List.setIfInBounds_toArray,List.set_cons_zero,List.set_cons_succ]
          refine tk 17 ?_
          refine wpAnyH_done (by kernel_rfl) ?_ _
          show Code.wpIn _ _ _ _ _ _ _
          gi_wp2
          exact HEnd.out (λh=>h.2.1 (by rw[HK0.out];exact hlt)) w5 HO5.out
        · have qd:decide ((k0:Int)<(cl.length:Int))=false:=by rw[decide_eq_false_iff_not];have:=HCl.out;omega
          have ql:¬(k0:Int)<(cl.length:Int):=by have:=HCl.out;omega
          refine tk 11 ?_
          refine tk 12 ?_
          refine tk 13 ?_
          refine tk 14 ?_
          refine tk 15 ?_
          by_cases hfa:c.retries<(t.sg p').fails
          · rw[show decide (c.retries<(t.sg p').fails)=true by simpa using hfa] at hfail
            refine wpAnyH_ready (rs:=[16]) (by kernel_rfl) (by simp) ?_
            refine AllReadyH.cons rfl (λK hK=>?_) AllReadyH.nil
            go_simp
            go_wp2_with (go_at_call 213;refine hfail.mono ?_;rintro e w6 ⟨rfl,nq,rfl⟩)
            refine hK.out _ _ hHeld (λhHeld=>?_)
            clear hK K
            refine tk 17 ?_
            refine wpAnyH_done (by kernel_rfl) ?_ _
            show Code.wpIn _ _ _ _ _ _ _
            gi_wp2
            exact HEnd.out (λh=>h.2.2 hfa) _ (Only.trans HO5.out (⟨rfl,rfl,rfl,Nat.le_refl _,λ_ _ _=>rfl⟩:Only w5 (w5.drewN nq) (λk=>k=bm)) λ_ h=>.inl h)
          · rw[show decide (c.retries<(t.sg p').fails)=false by simpa using hfa] at hfail
            refine wpAnyH_ready (rs:=[16]) (by kernel_rfl) (by simp) ?_
            refine AllReadyH.cons rfl (λK hK=>?_) AllReadyH.nil
            go_simp
            go_wp2_with (go_at_call 213;refine hfail.mono ?_;rintro e w6 ⟨rfl,nq,rfl⟩)
            refine hK.out _ _ hHeld (λhHeld=>?_)
            clear hK K
            refine tk 17 ?_
            refine wpAnyH_done (by kernel_rfl) ?_ _
            show Code.wpIn _ _ _ _ _ _ _
            have hr1:1<=t.r:=by omega
            have hr4:t.r<=4:=by
              have h1:=Bs.all_r c s.now (pre.map Subtype.val) (bs0 c s zs)
              rw[Ht.out] at h1
              exact Nat.le_trans h1 hc.2.2.2.1.2
            have hgo:t.go c p':=⟨hr,by rw[HK0.out];exact hlt,hfa⟩
            have HFin:Hid (∀W',Only W W' (λk=>k=bm\/k=b3\/k=yb\/k=p')->Bx W' b3 3 #[.int .i64 ((t.r-1:Nat):Int)]->FilesMap W' bm (x.n+32*pre.length+4*(t.sg p').l.length) (makes t.g (t.sg p').l).1->Bx W' yb 201 (yardCells c x (t.step c s.now p').b s.now qv sb s.outs.length ov)->SegAt W' (Plus S w) (s.top n0) (p',(t.step c s.now p').sg p')->KeepsFrom wn.heap.size W W'/\KpOf (.slice ta zs.length tcap) W W'/\BegInv w W' S yb n0 c s qv sb ov x zs b2 b3 bm ((pre++[(⟨p',hp⟩:Pt (zs.map Prod.fst))]).map Subtype.val)):=λW' hO h3 hM' hy hs=>by
              obtain⟨_,_,_,hs0⟩:=HZ.out.rest.train.segs (p',y) hz
              have hpw:=hs0.box.lt
              have hrow:=HB.out.only.sl HZ.out.rest.train.row (by decide)
              rw[HTV.out] at hrow
              have e1:(pre++[(⟨p',hp⟩:Pt (zs.map Prod.fst))]).map Subtype.val=pre.map Subtype.val++[p']:=by simp
              have hl8:(t.sg p').l.length<=8:=by rw[HSame.out.1];exact HLen.out
              refine⟨keeps_below hO λk e=>by simp only at hpw;omega,λg hg=>hO.block g (hrow.lt hg) λe=>?_,?_⟩
              · have Tg:=hrow.ty hg
                rcases e with rfl|rfl|rfl|rfl
                · exact absurd (Tg.one HM.out.ty) (by decide)
                · exact absurd (Tg.one HR3.out.ty) (by decide)
                · exact absurd (Tg.one HB.out.yard.ty) (by decide)
                · exact absurd (Tg.one HSeg.out.box.ty) (by decide)
              · rw[e1]
                unfold BegInv
                rw[Bs.all_snoc,Ht.out]
                refine⟨HB.out.step hz HZ.out.is.fy hs0.own hyl hpw hs0.box.ty HZ.out.is.box.ty HR3.out HM.out HB2.out.2.1 HB2.out.2.2 hO hy hs λk hk=>by simp[Bs.step,hk],h3,?_,Bs.goes_snoc HG.out (by rw[Ht.out];exact hgo)⟩
                have:x.n+32*pre.length+4*(t.sg p').l.length<=x.n+32*(pre.map Subtype.val++[p']).length:=by simp;omega
                exact hM'.more this
            have hk1:k0=(t.sg p').l.length:=by omega
            have hM6:=HM5.out hk1
            obtain⟨B3,B2,BP,BM,BY⟩:=HB5.out
            have f3:(w5.drewN nq).frozen? ⟨b3,0,none⟩=false:=B3.fr 0
            have g3:(w5.drewN nq).cell? ⟨b3,0,none⟩=some (.int .i64 t.r):=B3.cell (i:=0) rfl
            have n2:b3≠b2:=λe=>by subst e;exact absurd (B3.ty.one B2.ty) (by decide)
            have np:b3≠p':=λe=>by subst e;exact absurd (B3.ty.one BP.ty) (by decide)
            have nm:b3≠w.heap.size:=λe=>by rw[e] at B3;exact absurd (B3.ty.one BM.ty) (by decide)
            have ny:b3≠yb:=λe=>by subst e;exact absurd (B3.ty.one BY.ty) (by decide)
            have nb:b3≠bm:=λe=>by subst e;exact absurd (B3.ty.one hM6.ty) (by decide)
            have HCast:Hid ((t.r:Int)-1=((t.r-1:Nat):Int)):=by
              show _=_
              omega
            have hO7:Hid (Only W ((w5.drewN nq).setCell ⟨b3,0,none⟩ (.int .i64 ((t.r-1:Nat):Int))) (λk=>k=bm\/k=b3)):=Only.set (Only.trans (HO5.out.mono λ_ h=>.inl h) (⟨rfl,rfl,rfl,Nat.le_refl _,λ_ _ _=>rfl⟩:Only w5 (w5.drewN nq) (λk=>k=bm\/k=b3)) λ_ h=>.inl h) (.inl (.inr rfl))
            have HB7:Hid (Bx ((w5.drewN nq).setCell ⟨b3,0,none⟩ (.int .i64 ((t.r-1:Nat):Int))) b3 3 #[.int .i64 ((t.r-1:Nat):Int)]/\Bx ((w5.drewN nq).setCell ⟨b3,0,none⟩ (.int .i64 ((t.r-1:Nat):Int))) b2 132 #[.map (some bm)]/\Bx ((w5.drewN nq).setCell ⟨b3,0,none⟩ (.int .i64 ((t.r-1:Nat):Int))) p' 240 (segCells (.slice ca cl.length ccap) (t.sg p').fails (t.sg p').by_ jv)/\Bx ((w5.drewN nq).setCell ⟨b3,0,none⟩ (.int .i64 ((t.r-1:Nat):Int))) w.heap.size 130 #[.pointer (some ⟨yb,0,none⟩)]/\Bx ((w5.drewN nq).setCell ⟨b3,0,none⟩ (.int .i64 ((t.r-1:Nat):Int))) yb 201 (yardCells c x t.b s.now qv sb s.outs.length ov)/\FilesMap ((w5.drewN nq).setCell ⟨b3,0,none⟩ (.int .i64 ((t.r-1:Nat):Int))) bm (x.n+32*pre.length+4*(t.sg p').l.length) (makes t.g (t.sg p').l).1):=
              ⟨Bx.set (w:=w5.drewN nq) B3 0 _,Bx.other (w:=w5.drewN nq) B2 n2 0 _,Bx.other (w:=w5.drewN nq) BP np 0 _,Bx.other (w:=w5.drewN nq) BM nm 0 _,Bx.other (w:=w5.drewN nq) BY ny 0 _,FilesMap.same (w:=w5.drewN nq) hM6 ((grown_set (w5.drewN nq) b3 0 _).block bm hM6.lt (λe=>nb (by simpa using e.symm)))⟩
            clear B3 B2 BP BM BY hM6 hHeld HB5 HM5 HEnd hfail
            gi_upto_region 6 with fail
            rw[HCast.out]
            generalize (w5.drewN nq).setCell ⟨b3,0,none⟩ (.int .i64 ((t.r-1:Nat):Int))=w7 at *
            obtain⟨B3,B2,BP,BM,BY,hM7⟩:=HB7.out
            have hpass:=segPassed p' (t.sg p').by_ _ w7 BP rfl (decide ((t.sg p').by_≠0)) rfl
            have p3:=BP.c 3 jv
            have HNo:Hid (¬((t.sg p').by_=0/\(t.sg p').job.isNone=true)->KeepsFrom wn.heap.size W w7/\KpOf (.slice ta zs.length tcap) W w7/\BegInv w w7 S yb n0 c s qv sb ov x zs b2 b3 bm ((pre++[(⟨p',hp⟩:Pt (zs.map Prod.fst))]).map Subtype.val)):=λhno=>by
              have e1:(t.step c s.now p').b=t.b:=if_neg hno
              have e2:(t.step c s.now p').sg p'=t.sg p':=by
                show (if p'=p' then t.put c s.now p' else t.sg p')=_
                rw[if_pos rfl];exact if_neg hno
              refine HFin.out w7 (hO7.out.mono λk hk=>by rcases hk with h|h;exact .inl h;exact .inr (.inl h)) HB7.out.1 HB7.out.2.2.2.2.2 (by rw[e1];exact HB7.out.2.2.2.2.1) ?_
              rw[e2]
              have K:KeepT W w7 [tMap,3]:=⟨hO7.out.size,λk ty hk hn=>hO7.out.block k hk.lt λe=>by
                rcases e with rfl|rfl
                · exact hn (by rw[hk.one HM.out.ty];simp)
                · exact hn (by rw[hk.one HR3.out.ty];simp)⟩
              exact⟨_,_,_,HB7.out.2.2.1,HSeg.out.chs.keptT K (λ_ h=>h) (by decide) (by decide),HSeg.out.job.keptT K (λ_ h=>h) (Nat.le_refl _) (by decide) (by decide),HSeg.out.own⟩
            unfold ptr at hpass
            clear B3 B2 BP BM BY hM7
            by_cases hby:(t.sg p').by_=0
            · rw[show decide ((t.sg p').by_≠0)=false by simpa using hby] at hpass
              cases ej:(t.sg p').job with
              |some j=>
                obtain⟨jb,jt,jfl,rfl,-,-,-,-,-,-⟩:JobIs W (Plus S w) (s.top n0) jv (some j):=ej▸HSeg.out.job
                have hfin:=HNo.out (λh=>by rw[ej] at h;cases h.2)
                have HF:Hid (KeepsFrom wn.heap.size W w7/\KpOf (.slice ta zs.length tcap) W w7/\BegInv w w7 S yb n0 c s qv sb ov x zs b2 b3 bm ((pre++[(⟨p',hp⟩:Pt (zs.map Prod.fst))]).map Subtype.val)):=hfin
                clear hfin ej
                unfold ptr at p3
                gi_wp2_with (refine⟨trivial,?_⟩;gi_at_call 189;refine(calls_round _ _ hpass).mono ?_;rintro e w8 ⟨rfl,rfl⟩)
                exact HF.out
              |none=>
                have ejv:jv=.pointer none:=by have:=HSeg.out.job;rw[ej] at this;exact this
                subst ejv
                have hb8:pre.length<8:=by rw[hpl] at hpre;omega
                have hbb:t.b<=s.begun+pre.length:=by
                  have h1:=Bs.all_b c s.now (pre.map Subtype.val) (bs0 c s zs)
                  rw[Ht.out,List.length_map] at h1
                  exact h1
                obtain⟨B3,B2,BP,BM,BY,hM7⟩:=HB7.out
                have y12:w7.cell? ⟨yb,12,none⟩=some (.int .i64 t.b):=BY.cell (i:=12) rfl
                have fy:=BY.fr 12
                have m0:=BM.cell (i:=0) rfl
                have n2:yb≠b2:=λe=>by subst e;exact absurd (BY.ty.one B2.ty) (by decide)
                have np:yb≠p':=λe=>by subst e;exact absurd (BY.ty.one BP.ty) (by decide)
                have nm:yb≠w.heap.size:=λe=>by rw[e] at BY;exact absurd (BY.ty.one BM.ty) (by decide)
                have nb:yb≠bm:=λe=>by subst e;exact absurd (BY.ty.one hM7.ty) (by decide)
                have ny3:yb≠b3:=λe=>by subst e;exact absurd (BY.ty.one B3.ty) (by decide)
                have HCb:Hid ((t.b:Int)+1=((t.b+1:Nat):Int)):=by
                  show _=_
                  omega
                have HB8:Hid (Bx (w7.setCell ⟨yb,12,none⟩ (.int .i64 ((t.b+1:Nat):Int))) b3 3 #[.int .i64 ((t.r-1:Nat):Int)]/\Bx (w7.setCell ⟨yb,12,none⟩ (.int .i64 ((t.b+1:Nat):Int))) b2 132 #[.map (some bm)]/\Bx (w7.setCell ⟨yb,12,none⟩ (.int .i64 ((t.b+1:Nat):Int))) p' 240 (segCells (.slice ca cl.length ccap) (t.sg p').fails (t.sg p').by_ (.pointer none))/\Bx (w7.setCell ⟨yb,12,none⟩ (.int .i64 ((t.b+1:Nat):Int))) w.heap.size 130 #[.pointer (some ⟨yb,0,none⟩)]/\Bx (w7.setCell ⟨yb,12,none⟩ (.int .i64 ((t.b+1:Nat):Int))) yb 201 (yardCells c x (t.b+1) s.now qv sb s.outs.length ov)/\FilesMap (w7.setCell ⟨yb,12,none⟩ (.int .i64 ((t.b+1:Nat):Int))) bm (x.n+32*pre.length+4*(t.sg p').l.length) (makes t.g (t.sg p').l).1/\Only W (w7.setCell ⟨yb,12,none⟩ (.int .i64 ((t.b+1:Nat):Int))) (λk=>k=bm\/k=b3\/k=yb\/k=p')):=
                  ⟨Bx.other B3 ny3 12 _,Bx.other B2 n2 12 _,Bx.other BP np 12 _,Bx.other BM nm 12 _,Bx.set BY 12 _,hM7.same ((grown_set w7 yb 12 _).block bm hM7.lt (λe=>nb (by simpa using e.symm))),Only.set (hO7.out.mono λk hk=>by rcases hk with h|h;exact .inl h;exact .inr (.inl h)) (.inl (.inr (.inr (.inl rfl))))⟩
                clear B3 B2 BP BM BY hM7
                gi_upto_region 8 with (refine⟨trivial,?_⟩;gi_at_call 189;refine(calls_round _ _ hpass).mono ?_;rintro e w9 ⟨rfl,rfl⟩)
                rw[HCb.out]
                generalize hw8:w9.setCell ⟨yb,12,none⟩ (.int .i64 ((t.b+1:Nat):Int))=w8 at HB8 ⊢
                clear hw8
                obtain⟨B3,B2,BP,BM,BY,hM8,hO8⟩:=HB8.out
                have z1:w8.cell? ⟨yb,12,none⟩=some (.int .i64 ((t.b+1:Nat):Int)):=BY.cell (i:=12) rfl
                have z2:w8.cell? ⟨yb,13,none⟩=some (.int .i64 s.now):=BY.cell (i:=13) rfl
                have z3:w8.cell? ⟨yb,5,none⟩=some (.int .i64 c.deadline):=BY.cell (i:=5) rfl
                have z4:w8.cell? ⟨w.heap.size,0,none⟩=some (.pointer (some ⟨yb,0,none⟩)):=BM.cell (i:=0) rfl
                have z5:w8.cell? ⟨b2,0,none⟩=some (.map (some bm)):=B2.cell (i:=0) rfl
                obtain⟨D8,hown8,hD8⟩:=hM8
                have hl8:(t.sg p').l.length<=8:=by rw[HSame.out.1];exact HLen.out
                have hLs:=list_any bm _ D8 _ w8.drew hown8 hD8 (by have:=HX.out;have:=HOu.out;omega)
                have hdl:=hc.2.2.2.2.2.1.2
                have hwr:IntKind.i64.wrap ((s.now:Int)+(c.deadline:Int))=(s.now:Int)+(c.deadline:Int):=wrap_i64 (by omega) (by omega)
                have HCn:Hid ((s.now:Int)+(c.deadline:Int)=((s.now+c.deadline:Nat):Int)):=by
                  show _=_
                  omega
                clear hpass p3 y12 fy m0 hown8 hD8 B3 B2 BP BM BY hO8
                refine wpIn_ends (λW'=>KeepsFrom wn.heap.size W W'/\KpOf (.slice ta zs.length tcap) W W'/\BegInv w W' S yb n0 c s qv sb ov x zs b2 b3 bm ((pre++[(⟨p',hp⟩:Pt (zs.map Prod.fst))]).map Subtype.val)) (λ_ _ h=>h) ?_
                refine wpIn_round_held (S:=λw'=>w'.cell? ⟨w.heap.size,0,none⟩=some (.pointer (some ⟨yb,0,none⟩))/\w'.cell? ⟨yb,12,none⟩=some (.int .i64 ((t.b+1:Nat):Int))/\w'.cell? ⟨yb,13,none⟩=some (.int .i64 s.now)/\w'.cell? ⟨yb,5,none⟩=some (.int .i64 c.deadline)/\w'.cell? ⟨b2,0,none⟩=some (.map (some bm))) rfl rfl (λ⟨_,_,h⟩=>by cases h.1) ⟨z4,z1,z2,z3,z5⟩ (λhHeld=>?_)
                refine tk 0 ?_
                refine tk 1 ?_
                refine tk 2 ?_
                refine tk 3 ?_
                refine tk 4 ?_
                refine tk 5 ?_
                refine tk 6 ?_
                refine tk 7 ?_
                refine tk 8 ?_
                refine tk 9 ?_
                refine tk 10 ?_
                refine tk 11 ?_
                refine tk 12 ?_
                refine tk 13 ?_
                refine tk 14 ?_
                refine tk 15 ?_
                refine wpAnyH_ready (rs:=[16]) (by kernel_rfl) (by simp) ?_
                refine AllReadyH.cons rfl (λK hK=>?_) AllReadyH.nil
                go_simp
                go_wp2_with (go_at_call 144;refine hLs.mono ?_;rintro e w10 ⟨⟨fl,fb,fcap,rfl,hTold,hfl,hrow10⟩,hb10⟩)
                obtain⟨B3,B2,BP,BM,BY,hM8,hO8⟩:=HB8.out
                have k10:∀k,k<w8.heap.size->w10.heap[k]? =w8.heap[k]? :=λk hk=>hb10.block k hk
                have C3:Bx w10 b3 3 #[.int .i64 ((t.r-1:Nat):Int)]:=(k10 _ B3.lt).trans B3
                have C2:Bx w10 b2 132 #[.map (some bm)]:=(k10 _ B2.lt).trans B2
                have CP:Bx w10 p' 240 (segCells (.slice ca cl.length ccap) (t.sg p').fails (t.sg p').by_ (.pointer none)):=(k10 _ BP.lt).trans BP
                have CM:Bx w10 w.heap.size 130 #[.pointer (some ⟨yb,0,none⟩)]:=(k10 _ BM.lt).trans BM
                have CY:Bx w10 yb 201 (yardCells c x (t.b+1) s.now qv sb s.outs.length ov):=(k10 _ BY.lt).trans BY
                have hM10:FilesMap w10 bm (x.n+32*pre.length+4*(t.sg p').l.length) (makes t.g (t.sg p').l).1:=hM8.same (k10 _ hM8.lt)
                have O10:Only W w10 (λk=>k=bm\/k=b3\/k=yb\/k=p'):=Only.trans hO8 (Only.of_below (w:=w8) ⟨hb10.os,hb10.tape,hb10.output,hb10.size,k10⟩) λ_ h=>.inl h
                have hS10:Sl w10 80 2 (.slice (some ⟨fb,0,none⟩) fl.length fcap) fl.length (fl.flatMap cF):=Sl.of_row hrow10
                have hfb:w8.heap.size<=fb:=by
                  rcases hrow10.2 with ⟨h,_⟩|⟨g',_,_,h,hg',_⟩
                  · cases h
                  · obtain⟨h1,_,_⟩:=Value.slice.inj h
                    cases h1
                    exact hg'
                have ho1:∀o,(w10.alloc o).cell? ⟨p',3,none⟩=some (.pointer none):=λo=>(CP.mk o).cell (i:=3) rfl
                have ho2:∀o,(w10.alloc o).frozen? ⟨p',3,none⟩=false:=λo=>(CP.mk o).fr 3
                have HC10:Hid (Bx w10 b3 3 #[.int .i64 ((t.r-1:Nat):Int)]/\Bx w10 b2 132 #[.map (some bm)]/\Bx w10 p' 240 (segCells (.slice ca cl.length ccap) (t.sg p').fails (t.sg p').by_ (.pointer none))/\Bx w10 w.heap.size 130 #[.pointer (some ⟨yb,0,none⟩)]/\Bx w10 yb 201 (yardCells c x (t.b+1) s.now qv sb s.outs.length ov)/\FilesMap w10 bm (x.n+32*pre.length+4*(t.sg p').l.length) (makes t.g (t.sg p').l).1/\Only W w10 (λk=>k=bm\/k=b3\/k=yb\/k=p')):=⟨C3,C2,CP,CM,CY,hM10,O10⟩
                have HS10:Hid (Sl w10 80 2 (.slice (some ⟨fb,0,none⟩) fl.length fcap) fl.length (fl.flatMap cF)/\w8.heap.size<=fb/\Told fl (makes t.g (t.sg p').l).1/\fl.length<=x.n+32*pre.length+4*(t.sg p').l.length):=⟨hS10,hfb,hTold,hfl⟩
                refine hK.out _ _ ⟨CM.cell (i:=0) rfl,CY.cell (i:=12) rfl,CY.cell (i:=13) rfl,CY.cell (i:=5) rfl,C2.cell (i:=0) rfl⟩ (λhHeld=>?_)
                clear hK K C3 C2 CP CM CY hM10 O10 hS10 hfb hTold hfl hrow10 hb10 k10 hLs
                refine tk 17 ?_
                refine wpAnyH_ready (rs:=[18]) (by kernel_rfl) (by simp) ?_
                refine AllReadyH.cons rfl (λK hK=>?_) AllReadyH.nil
                go_simp
                have HA10:Hid (Bx (w10.alloc (.cells #[.int .i64 ((t.b:Int)+1),.int .i64 ((s.now:Int)+(c.deadline:Int)),.slice (some ⟨fb,0,none⟩) fl.length fcap] 242)) b3 3 #[.int .i64 ((t.r-1:Nat):Int)]/\Bx (w10.alloc (.cells #[.int .i64 ((t.b:Int)+1),.int .i64 ((s.now:Int)+(c.deadline:Int)),.slice (some ⟨fb,0,none⟩) fl.length fcap] 242)) b2 132 #[.map (some bm)]/\Bx (w10.alloc (.cells #[.int .i64 ((t.b:Int)+1),.int .i64 ((s.now:Int)+(c.deadline:Int)),.slice (some ⟨fb,0,none⟩) fl.length fcap] 242)) p' 240 (segCells (.slice ca cl.length ccap) (t.sg p').fails (t.sg p').by_ (.pointer none))/\Bx (w10.alloc (.cells #[.int .i64 ((t.b:Int)+1),.int .i64 ((s.now:Int)+(c.deadline:Int)),.slice (some ⟨fb,0,none⟩) fl.length fcap] 242)) w.heap.size 130 #[.pointer (some ⟨yb,0,none⟩)]/\Bx (w10.alloc (.cells #[.int .i64 ((t.b:Int)+1),.int .i64 ((s.now:Int)+(c.deadline:Int)),.slice (some ⟨fb,0,none⟩) fl.length fcap] 242)) yb 201 (yardCells c x (t.b+1) s.now qv sb s.outs.length ov)):=⟨HC10.out.1.mk _,HC10.out.2.1.mk _,HC10.out.2.2.1.mk _,HC10.out.2.2.2.1.mk _,HC10.out.2.2.2.2.1.mk _⟩
                refine hK.out _ _ ⟨HA10.out.2.2.2.1.cell (i:=0) rfl,HA10.out.2.2.2.2.cell (i:=12) rfl,HA10.out.2.2.2.2.cell (i:=13) rfl,HA10.out.2.2.2.2.cell (i:=5) rfl,HA10.out.2.1.cell (i:=0) rfl⟩ (λhHeld=>?_)
                clear hK K
                refine tk 19 ?_
                refine tk 20 ?_
                refine wpAnyH_ready (rs:=[21]) (by kernel_rfl) (by simp) ?_
                refine AllReadyH.cons rfl (λK hK=>?_) AllReadyH.nil
                go_simp
                have HF10:Hid (Bx ((w10.alloc (.cells #[.int .i64 ((t.b:Int)+1),.int .i64 ((s.now:Int)+(c.deadline:Int)),.slice (some ⟨fb,0,none⟩) fl.length fcap] 242)).setCell ⟨p',3,none⟩ (.pointer (some ⟨w10.heap.size,0,none⟩))) b3 3 #[.int .i64 ((t.r-1:Nat):Int)]/\Bx ((w10.alloc (.cells #[.int .i64 ((t.b:Int)+1),.int .i64 ((s.now:Int)+(c.deadline:Int)),.slice (some ⟨fb,0,none⟩) fl.length fcap] 242)).setCell ⟨p',3,none⟩ (.pointer (some ⟨w10.heap.size,0,none⟩))) b2 132 #[.map (some bm)]/\Bx ((w10.alloc (.cells #[.int .i64 ((t.b:Int)+1),.int .i64 ((s.now:Int)+(c.deadline:Int)),.slice (some ⟨fb,0,none⟩) fl.length fcap] 242)).setCell ⟨p',3,none⟩ (.pointer (some ⟨w10.heap.size,0,none⟩))) p' 240 (segCells (.slice ca cl.length ccap) (t.sg p').fails (t.sg p').by_ (.pointer (some ⟨w10.heap.size,0,none⟩)))/\Bx ((w10.alloc (.cells #[.int .i64 ((t.b:Int)+1),.int .i64 ((s.now:Int)+(c.deadline:Int)),.slice (some ⟨fb,0,none⟩) fl.length fcap] 242)).setCell ⟨p',3,none⟩ (.pointer (some ⟨w10.heap.size,0,none⟩))) w.heap.size 130 #[.pointer (some ⟨yb,0,none⟩)]/\Bx ((w10.alloc (.cells #[.int .i64 ((t.b:Int)+1),.int .i64 ((s.now:Int)+(c.deadline:Int)),.slice (some ⟨fb,0,none⟩) fl.length fcap] 242)).setCell ⟨p',3,none⟩ (.pointer (some ⟨w10.heap.size,0,none⟩))) yb 201 (yardCells c x (t.b+1) s.now qv sb s.outs.length ov)):=by
                  obtain⟨h1,h2,h3,h4,h5⟩:=HA10.out
                  exact⟨Bx.other h1 (λe=>by subst e;exact absurd (h1.ty.one h3.ty) (by decide)) 3 _,Bx.other h2 (λe=>by subst e;exact absurd (h2.ty.one h3.ty) (by decide)) 3 _,Bx.set h3 3 _,Bx.other h4 (λe=>by rw[e] at h3;exact absurd (h4.ty.one h3.ty) (by decide)) 3 _,Bx.other h5 (λe=>by subst e;exact absurd (h5.ty.one h3.ty) (by decide)) 3 _⟩
                refine hK.out _ _ ⟨HF10.out.2.2.2.1.cell (i:=0) rfl,HF10.out.2.2.2.2.cell (i:=12) rfl,HF10.out.2.2.2.2.cell (i:=13) rfl,HF10.out.2.2.2.2.cell (i:=5) rfl,HF10.out.2.1.cell (i:=0) rfl⟩ (λhHeld=>?_)
                clear hK K
                refine wpAnyH_done (by kernel_rfl) ?_ _
                refine⟨rfl,?_⟩
                have e0:(t.sg p').by_=0/\(t.sg p').job.isNone=true:=⟨hby,by rw[ej];rfl⟩
                have e1:(t.step c s.now p').b=t.b+1:=if_pos e0
                have e2:(t.step c s.now p').sg p'={t.sg p' with job:=some ⟨t.b+1,s.now+c.deadline,(makes t.g (t.sg p').l).1⟩}:=by
                  show (if p'=p' then t.put c s.now p' else t.sg p')=_
                  rw[if_pos rfl];exact if_pos e0
                obtain⟨-,-,D3,-,-,hM10,O10⟩:=HC10.out
                have nmp:p'≠bm:=λe=>by subst e;exact absurd (D3.ty.one hM10.ty) (by decide)
                have OA:Only W ((w10.alloc (.cells #[.int .i64 ((t.b:Int)+1),.int .i64 ((s.now:Int)+(c.deadline:Int)),.slice (some ⟨fb,0,none⟩) fl.length fcap] 242)).setCell ⟨p',3,none⟩ (.pointer (some ⟨w10.heap.size,0,none⟩))) (λk=>k=bm\/k=b3\/k=yb\/k=p'):=Only.set (Only.trans O10 (Only.of_below (below_new w10 _)) λ_ h=>.inl h) (.inl (.inr (.inr (.inr rfl))))
                have hww:w.heap.size<=w10.heap.size:=Nat.le_trans HB.out.only.size O10.size
                refine HFin.out _ OA HF10.out.1 ?_ (by rw[e1];exact HF10.out.2.2.2.2) ?_
                · exact hM10.same (((grown_set (w10.alloc (.cells #[.int .i64 ((t.b:Int)+1),.int .i64 ((s.now:Int)+(c.deadline:Int)),.slice (some ⟨fb,0,none⟩) fl.length fcap] 242)) p' 3 _).block bm (Nat.lt_of_lt_of_le hM10.lt (by simp)) (λe=>nmp (by simpa using e.symm))).trans ((below_new w10 _).block bm hM10.lt))
                · rw[e2]
                  have K10:KeepT W ((w10.alloc (.cells #[.int .i64 ((t.b:Int)+1),.int .i64 ((s.now:Int)+(c.deadline:Int)),.slice (some ⟨fb,0,none⟩) fl.length fcap] 242)).setCell ⟨p',3,none⟩ (.pointer (some ⟨w10.heap.size,0,none⟩))) [tMap,3,201,240]:=⟨OA.size,λk ty hk hn=>OA.block k hk.lt λe=>by
                    rcases e with rfl|rfl|rfl|rfl
                    · exact hn (by rw[hk.one HM.out.ty];simp)
                    · exact hn (by rw[hk.one HR3.out.ty];simp)
                    · exact hn (by rw[hk.one HB.out.yard.ty];simp)
                    · exact hn (by rw[hk.one HSeg.out.box.ty];simp)⟩
                  refine⟨.slice ca cl.length ccap,.pointer (some ⟨w10.heap.size,0,none⟩),cl,HF10.out.2.2.1,HSeg.out.chs.keptT K10 (λ_ h=>h) (by decide) (by decide),⟨w10.heap.size,.slice (some ⟨fb,0,none⟩) fl.length fcap,fl,rfl,?_,?_,HS10.out.2.2.1,?_,.inr hww,λg' hg'=>?_⟩,HSeg.out.own⟩
                  · have:=Bx.other (Bx.new w10 #[.int .i64 ((t.b:Int)+1),.int .i64 ((s.now:Int)+(c.deadline:Int)),.slice (some ⟨fb,0,none⟩) fl.length fcap] 242) (c:=p') (Nat.ne_of_lt D3.lt) 3 (.pointer (some ⟨w10.heap.size,0,none⟩))
                    rw[HCb.out,HCn.out] at this
                    rw[HCb.out,HCn.out]
                    exact this
                  · exact(HS10.out.1.mk _).grown (grown_set _ p' 3 _) (λg' hg' e=>by
                      have h1:=HS10.out.1.ty hg'
                      have:p'=g':=by simpa using e
                      subst this
                      exact absurd (D3.ty.one h1) (by decide))
                  · have:=HS10.out.2.2.2
                    have:=HX.out
                    have:=HOu.out
                    show fl.length<=n0+4*s.ids.length+256
                    omega
                  · have:fb=g':=by simpa[Value.ownBlock] using hg'
                    subst this
                    have h1:=HS10.out.2.1
                    have h2:=HB8.out.2.2.2.2.2.2.size
                    exact .inr (by have:=HB.out.only.size;omega)
            · rw[show decide ((t.sg p').by_≠0)=true by simpa using hby] at hpass
              have hfin:=HNo.out (λh=>hby h.1)
              have HF:Hid (KeepsFrom wn.heap.size W w7/\KpOf (.slice ta zs.length tcap) W w7/\BegInv w w7 S yb n0 c s qv sb ov x zs b2 b3 bm ((pre++[(⟨p',hp⟩:Pt (zs.map Prod.fst))]).map Subtype.val)):=hfin
              clear hfin
              gi_wp2_with (refine⟨trivial,?_⟩;gi_at_call 189;refine(calls_round _ _ hpass).mono ?_;rintro e w8 ⟨rfl,rfl⟩)
              exact HF.out
    case done=>
      rintro D ys W hD rfl hE hK
      gi_wp2
      refine⟨by simp,.inl ⟨_,_,rfl,run_takeDeferred hK,?_⟩⟩
      have hE2:=(BegInv.own (ps:=zs.map Prod.fst) (w:=w) (S:=S) (yb:=yb) (n0:=n0) (c:=c) (s:=s) (qv:=qv) (sb:=sb) (ov:=ov) (x:=x) (zs:=zs) (b2:=b2) (b3:=b3) (bm:=bm) (B:=wn.heap.size) (by omega) (by omega) (by omega) (by omega) (by omega)).putObj (.deferred none) hE hD hK rfl
      rw[List.attach_map_subtype_val] at hE2
      have hZ:=HZ.out
      exact⟨_,results_none rfl _ _ _,rfl,⟨q,sb,qv,ov,x,(hE2.1.done hZ (bs_begins hZ.rest.train.nd hZ.rest.train.snd _ [] (by simp) hE2.2.2.2 (.inl rfl))).is,HX.out⟩,hE2.1.only⟩
    case stop=>
      rintro D cd pre W hD ⟨k,hk,rfl⟩ hE hK
      have hE2:=(BegEnd.own (ps:=zs.map Prod.fst) (w:=w) (S:=S) (yb:=yb) (n0:=n0) (c:=c) (s:=s) (qv:=qv) (sb:=sb) (ov:=ov) (x:=x) (zs:=zs) (b2:=b2) (bm:=bm) (B:=wn.heap.size) (by omega) (by omega) (by omega) cd).putObj (.deferred none) hE hD hK rfl
      obtain⟨rfl,l,p,hlp,hB,hg,hn⟩:=hE2
      rw[List.map_take,List.attach_map_subtype_val] at hlp
      gi_wp2
      refine⟨by simp,.inl ⟨_,_,rfl,run_takeDeferred hK,?_⟩⟩
      have hZ:=HZ.out
      exact⟨_,results_none rfl _ _ _,rfl,⟨q,sb,qv,ov,x,(hB.done hZ (bs_begins hZ.rest.train.nd hZ.rest.train.snd l (p::(zs.map Prod.fst).drop k) ((List.take_append_drop k (zs.map Prod.fst)).symm.trans (by rw[hlp,List.append_assoc];rfl)) hg (.inr ⟨_,_,rfl,hn⟩))).is,HX.out⟩,hB.only⟩
end
end Go.Proofs.YtgamgomepdfgdaaGreat
