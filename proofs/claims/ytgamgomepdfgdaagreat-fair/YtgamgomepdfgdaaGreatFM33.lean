import Derived.Test.YtgamgomepdfgdaaGreatFM31
import Derived.Test.YtgamgomepdfgdaaGreatFM23
import Derived.Test.YtgamgomepdfgdaaGreatFM32
set_option maxRecDepth 100000
set_option maxHeartbeats 8000000
namespace Go.Proofs.YtgamgomepdfgdaaGreat
open Go.RowKit Go.Proofs.Tryz
section
open Go.Shelf
attribute [local go_sem] Oper.semAt_some
structure SegsOut (base:Nat)(w:World)(v:Value)(gs:List Gv):Prop where
  row:w.ownsRow base 119 4 v gs.length (gs.flatMap cGv)
  ids:∀y∈gs,w.ownsRow base 3 1 y.2 y.1.1.length (y.1.1.map cI)
  ap:gs.Pairwise λa b=>∀g,a.2.ownBlock=some g->b.2.ownBlock≠some g
theorem SegsOut.keptT {base:Nat}{w w':World}{v:Value}{gs:List Gv}{ts:List TypeId}(h:SegsOut base w v gs)(K:KeepT w w' ts)(h1:119∉ts)(h2:3∉ts):SegsOut base w' v gs:=
  ⟨K.row h.row h1,λy hy=>K.row (h.ids y hy) h2,h.ap⟩
def TrIs (w W:World)(b3:Nat)(zs:List (Nat×Sm))(pre:List Nat):Prop:=
  Below w.heap.size w W/\∃v gs,Bx W b3 115 #[v]/\gs.map Prod.fst=pre.map (λp=>tellS (sgOf zs p))/\SegsOut w.heap.size W v gs
theorem TrIs.own {w:World}{b3:Nat}{zs:List (Nat×Sm)}{ps:List Nat}{B:Nat}(hB:w.heap.size<=B):OwnFrom B (λ(pre:List (Pt ps)) W=>TrIs w W b3 zs (pre.map Subtype.val)):=λs W W' row hs hg hr=>by
  obtain⟨hb,v,gs,hx,e,hO⟩:=hs
  have K:=KeepT.own hg λr e=>(hr r e).2
  exact⟨below_own hb (Nat.le_refl _) hg (λr e=>(hr r e).1) hB,v,gs,K.bx hx (by decide),e,hO.keptT K (by decide) (by decide)⟩
theorem tr_snoc {w W w5 w6:World}{b3 p' B n5:Nat}{zs:List (Nat×Sm)}{pre:List Nat}{y:Sm}{gs:List Gv}{v r5 v6 tv:Value}{xs:List Value}{o:Obj}{cl:List Cw}(hs:sgOf zs p'=y)(hc:cl.map Prod.fst=y.l)(HB:Below w.heap.size w W)(HX:Bx W b3 115 #[v])(hb3:w.heap.size<=b3)(he:gs.map Prod.fst=pre.map (λp=>tellS (sgOf zs p)))(HO:SegsOut w.heap.size W v gs)(hb5:Below W.heap.size W w5)(hr5:w5.ownsRow W.heap.size 3 1 r5 cl.length (cl.map λy=>cI y.1.1))(hr6:w6.ownsRow w.heap.size 119 4 v6 (gs.length+1) (gs.flatMap cGv++[r5,.int .i64 y.fails,.bool (y.by_ !=0),.int .i64 (jobN y.job)]))(hg6:(w5.alloc o).grownBy w6 v.ownBlock)(htv:Sl W 210 1 tv n5 xs):
    KeepsFrom B W (w6.setCell ⟨b3,0,none⟩ v6)/\KpOf tv W (w6.setCell ⟨b3,0,none⟩ v6)/\TrIs w (w6.setCell ⟨b3,0,none⟩ v6) b3 zs (pre++[p']):=by
  have hbA:Below W.heap.size W (w5.alloc o):=hb5.trans ((below_new _ _).mono hb5.size)
  have K1:KeepT W (w5.alloc o) []:=KeepT.of_only (Only.of_below (S:=λ_=>False) hbA) λ_ h=>h.elim
  have R1:=K1.row HO.row (by decide)
  have O2:Only (w5.alloc o) w6 (λk=>v.ownBlock=some k):=Only.of_grown hg6 λ_ h=>h
  have K2:KeepT (w5.alloc o) w6 [119]:=KeepT.of_only O2 λk hk=>⟨_,by simp,row_ty R1 hk⟩
  have B6:=K2.bx (K1.bx HX (by decide)) (by decide)
  have O3:Only w6 (w6.setCell ⟨b3,0,none⟩ v6) (λk=>k=b3):=(Only.refl w6 (λk=>k=b3)).set (b:=b3) (.inl rfl)
  have K3:KeepT w6 (w6.setCell ⟨b3,0,none⟩ v6) [115]:=KeepT.of_only O3 λk hk=>⟨115,by simp,by rw[hk];exact B6.ty⟩
  have hsz:W.heap.size<=(w5.alloc o).heap.size:=hbA.size
  have cells:∀{U:World} {k:Nat} {t:TypeId} {ob:Obj},TyAt U k t->t≠tMap->U.heap[k]? =some ob->ob.isCells≠false:=λht hne hk hf=>by
    rcases ht with ⟨cur,ht⟩|⟨e,_⟩
    · rw[ht] at hk;cases hk;cases hf
    · exact hne e
  refine⟨⟨Nat.le_trans hsz (Nat.le_trans O2.size O3.size),λk ob _ hk hf=>?_⟩,λg hg=>?_,?_,v6,gs++[(tellS y,r5)],B6.set 0 v6,by rw[List.map_append,List.map_append,he,List.map_cons,List.map_nil,List.map_cons,List.map_nil,hs],?_,?_,?_⟩
  · have hkl:=(Array.getElem?_eq_some_iff.1 hk).1
    have h1:=(hbA.block k hkl).trans hk
    have h2:=(O2.block k (by omega) λe=>cells (row_ty R1 e) (by decide) h1 hf).trans h1
    exact(O3.block k (Array.getElem?_eq_some_iff.1 h2).1 λe=>cells (by rw[e];exact B6.ty) (by decide) h2 hf).trans h2
  · have hT1:=K1.sl htv (by decide)
    have hT2:=K2.sl hT1 (by decide)
    refine((O3.block g (hT2.lt hg) λe=>?_).trans (O2.block g (hT1.lt hg) λe=>?_)).trans (hbA.block g (htv.lt hg))
    · exact absurd (B6.ty.one (by rw[<-e];exact hT2.ty hg)) (by decide)
    · exact absurd ((row_ty R1 e).one (hT1.ty hg)) (by decide)
  · have h1:Below w.heap.size w (w5.alloc o):=HB.trans (hbA.mono HB.size)
    exact below_set (h1.grown hg6 h1.size λj hj=>(World.ownsRow.lt HO.row j hj).1) hb3 0 v6
  · rw[List.length_append,List.flatMap_append]
    exact K3.row hr6 (by decide)
  · intro z hz
    rcases List.mem_append.1 hz with hz|hz
    · exact K3.row (K2.row (K1.row (HO.ids z hz) (by decide)) (by decide)) (by decide)
    · obtain rfl:=List.mem_singleton.1 hz
      have h1:w5.ownsRow w.heap.size 3 1 r5 (y.l.map Prod.fst).length ((y.l.map Prod.fst).map cI):=by
        rw[<-hc,List.map_map,List.map_map,List.length_map]
        exact row_low hr5 HB.size
      exact K3.row (K2.row (World.ownsRow.alloc h1 o) (by decide)) (by decide)
  · rw[List.pairwise_append]
    refine⟨HO.ap,by simp,λz hz z' hz' q hq e=>?_⟩
    obtain rfl:=List.mem_singleton.1 hz'
    have h1:=(World.ownsRow.lt (HO.ids z hz) q hq).2
    have h2:=(World.ownsRow.lt hr5 q e).1
    omega
theorem tr_box {W w5 w6:World}{b3 n base:Nat}{v:Value}{xs:List Value}{o:Obj}(HX:Bx W b3 115 #[v])(HR:W.ownsRow base 119 4 v n xs)(hb5:Below W.heap.size W w5)(hg6:(w5.alloc o).grownBy w6 v.ownBlock):Bx w6 b3 115 #[v]:=by
  have hbA:Below W.heap.size W (w5.alloc o):=hb5.trans ((below_new _ _).mono hb5.size)
  have K1:KeepT W (w5.alloc o) []:=KeepT.of_only (Only.of_below (S:=λ_=>False) hbA) λ_ h=>h.elim
  have K2:KeepT (w5.alloc o) w6 [119]:=KeepT.of_only (Only.of_grown (S:=λk=>v.ownBlock=some k) hg6 λ_ h=>h) λk hk=>⟨_,by simp,row_ty (K1.row HR (by decide)) hk⟩
  exact K2.bx (K1.bx HX (by decide)) (by decide)
set_option linter.unusedSimpArgs false in
theorem yTrain {S:Nat->Prop}{yb mb n0:Nat}{c:Cfg}{s:Ts}{w:World}{q:List Pw}{sb:Nat}{qv ov:Value}{x:Xt}{tl:List Tp}{zs:List (Nat×Sm)}(h:YardZ w S yb mb n0 c s q sb qv ov x tl zs)(hl:zs.length<=8)(hn:∀z∈zs,z.2.l.length<=8):
    Calls prog 106 #[.pointer (some ⟨yb,0,none⟩)] w λe w'=>(∃v gs,e=.returned v/\gs.map Prod.fst=s.segs.map tellS/\SegsOut w.heap.size w' v gs)/\Below w.heap.size w w':=by
  obtain⟨i0,hi,hz0,hz1,hz2⟩:=info_parts info_sgm
  obtain⟨ta,tcap,htv⟩:=h.rest.train.row.form
  have hB1:Below w.heap.size w (w.alloc (.cells #[.slice none 0 0] 115)):=below_new _ _
  have h1:=h.later hB1
  have c11:(w.alloc (.cells #[.slice none 0 0] 115)).cell? ⟨yb,11,none⟩=some (.slice ta zs.length tcap):=by rw[<-htv];exact h1.is.box.cell (i:=11) rfl
  have hpl:(zs.map Prod.fst).length=zs.length:=List.length_map _
  have HRow:Hid (Sl (w.alloc (.cells #[.slice none 0 0] 115)) 210 1 (.slice ta zs.length tcap) zs.length ((zs.map Prod.fst).map ptr)):=by
    have:=h1.rest.train.row
    rw[htv] at this
    show Sl _ _ _ _ _ _
    rw[List.map_map]
    exact this
  have HTw:Hid (Sl w 210 1 (.slice ta zs.length tcap) zs.length ((zs.map Prod.fst).map ptr)):=by
    have:=h.rest.train.row
    rw[htv] at this
    show Sl _ _ _ _ _ _
    rw[List.map_map]
    exact this
  have HSegs:Hid (∀z∈zs,SegAt w S (s.top n0) z):=h.rest.train.segs
  have HNd:Hid ((zs.map Prod.fst).Nodup):=h.rest.train.nd
  have HSnd:Hid (zs.map Prod.snd=s.segs):=h.rest.train.snd
  have HN:Hid (∀z∈zs,z.2.l.length<=8):=hn
  have HSz:Hid ((w.alloc (.cells #[.slice none 0 0] 115)).heap.size=w.heap.size+1):=World.size_alloc ..
  have HT:Hid (TrIs w ((w.alloc (.cells #[.slice none 0 0] 115)).alloc (.cells #[.slice ta zs.length tcap] 195)) w.heap.size zs []):=
    ⟨hB1.trans ((below_new _ _).mono hB1.size),.slice none 0 0,[],(Bx.new _ _ _).mk _,rfl,⟨World.ownsRow_nil _ _ _ _,by simp,List.Pairwise.nil⟩⟩
  clear h h1 htv hn hB1
  refine(callsIn_wide (n:=3)).1 ?_
  refine callsIn_of_wp_marks func106 rfl trivial ?_ rfl
  simp only[ntmps106,List.size_toArray,List.length_cons,List.length_nil,Nat.reduceAdd,Nat.reduceSub,Array.replicate_succ,Array.replicate_zero,List.push_toArray,List.append_toArray,List.nil_append,List.cons_append]
  gi_upto_region 2 with fail
  generalize w.alloc (.cells #[.slice none 0 0] 115)=w1 at *
  have hB0:Hid (Below w1.heap.size w1 (w1.alloc (.cells #[.slice ta zs.length tcap] 195))):=below_new _ _
  gi_wp2_with (refine⟨trivial,?_⟩;gi_at_call 147;refine(callsIn_wide.2 (lineAll yb ta zs.length tcap w1 c11)).mono ?_;rintro e w' ⟨rfl,rfl⟩)
  refine wpIn_rangeFunc_ownG (α:=Pt (zs.map Prod.fst)) (n:=3) (F:=Fence.wide) rfl (by decide) (gf:=223) (lb:=#[.pointer (some ⟨w1.heap.size,0,none⟩)]) rfl trivial (enters_of func223 (by kernel_rfl) rfl)
    (sv_stops Fence.wide 2 trivial rfl (by decide) w1.heap.size (.slice ta zs.length tcap) (zs.map Prod.fst) (by rw[hpl];omega) (w1.alloc (.cells #[.slice ta zs.length tcap] 195)) (by simp) (by simp) (by rw[hpl];exact HRow.out.mk _)) kpOf_t (kpOf_b λg hg=>Nat.lt_of_lt_of_le (HRow.out.lt hg) hB0.out.size) (Below.refl _ _) (λ_=>rfl)
    (λpre W=>TrIs w W w.heap.size zs (pre.map Subtype.val)) (λ_ _ _=>False) (TrIs.own (by have:=hB0.out.size;have:=HSz.out;omega)) (λ_ _ _ _ _ hs _ _=>hs) HT.out
    (λy=>{tmps:=#[.pointer (some ⟨yb,0,none⟩),undef,.slice none 0 0,.pointer (some ⟨w.heap.size,0,none⟩),.pointer (some ⟨y.1,0,none⟩),.pointer (some ⟨yb,0,none⟩),.pointer (some ⟨yb,0,none⟩),.pointer (some ⟨yb,11,none⟩),.func (.func 223) #[] #[.pointer (some ⟨w1.heap.size,0,none⟩)],.pointer (some ⟨y.1,0,none⟩),undef,undef,undef,undef,undef,undef],defers:=[]}) ?assign ?body ?done ?stop
  case assign=>
    intro l y W K hK
    unfold ptr
    gi_wp2
    exact hK
  case body=>
    rintro l pre ⟨p,hp⟩ W hE hpre
    obtain⟨⟨p',y⟩,hz,rfl⟩:=List.mem_map.1 hp
    obtain⟨hb,v,gs,hx,he,hO⟩:=hE
    obtain⟨va,vc,rfl⟩:=row_shape3 hO.row
    obtain⟨cv,jv,cl,hseg⟩:=(HSegs.out (p',y) hz).kept (w':=W.drew) (λk hk _=>hb.block k hk) (λ_ h=>h) (Nat.le_refl _)
    have hcl:cl.length=y.l.length:=chs_len hseg.chs
    have hT:=segTell hseg (by have:=HN.out _ hz;simp only at this;omega)
    unfold ptr at hT
    have hxd:Bx W.drew w.heap.size 115 #[.slice va gs.length vc]:=hx
    have l0:W.drew.cell? ⟨w.heap.size,0,none⟩=some (.slice va gs.length vc):=hxd.cell (i:=0) rfl
    have hgl:gs.length<=8:=by
      have:=congrArg List.length he
      simp only[List.length_map] at this hpre
      omega
    have HCl:Hid (cl.map Prod.fst=y.l):=hseg.chs.fst
    have HSg:Hid (sgOf zs p'=y):=sgOf_mem HNd.out hz
    have HTv:Hid (Sl W 210 1 (.slice ta zs.length tcap) zs.length ((zs.map Prod.fst).map ptr)):=HTw.out.later hb
    have q1:Hid (gs.length+1<=maxLen):=by show _<=_;unfold maxLen;omega
    have q3:Hid ((gs.length+1)*48<=140737488355328):=by show _<=_;omega
    have HE:Hid (gs.map Prod.fst=(pre.map Subtype.val).map (λp=>tellS (sgOf zs p))):=he
    have HO:Hid (SegsOut w.heap.size W (.slice va gs.length vc) gs):=hO
    have HX:Hid (Bx W w.heap.size 115 #[.slice va gs.length vc]):=hx
    have HB:Hid (Below w.heap.size w W):=hb
    clear hseg hcl he hO hx hb hpre hxd
    refine wpIn_ends (λW'=>KeepsFrom (w1.alloc (.cells #[.slice ta zs.length tcap] 195)).heap.size W W'/\KpOf (.slice ta zs.length tcap) W W'/\TrIs w W' w.heap.size zs ((pre++[(⟨p',hp⟩:Pt (zs.map Prod.fst))]).map Subtype.val)) (λ_ _ h=>h) ?_
    refine wpIn_block (wpIn_round_held (S:=λ_=>True) rfl rfl (λ⟨_,_,h⟩=>by cases h.1) trivial (λ_=>?_))
    refine tk 1 ?_
    refine wpAnyH_ready (rs:=[0,2]) (by kernel_rfl) (by simp) ?_
    refine AllReadyH.cons rfl (λK hK=>?_) (AllReadyH.cons rfl (λK hK=>?_) AllReadyH.nil)
    · go_simp
      refine hK.out _ _ trivial (λ_=>?_)
      clear hK K
      refine wpAnyH_ready (rs:=[2]) (by kernel_rfl) (by simp) ?_
      refine AllReadyH.cons rfl (λK hK=>?_) AllReadyH.nil
      go_simp
      go_wp2_with (go_at_call 148;refine hT.mono ?_;rintro e w5 ⟨⟨v5,rfl,hr5⟩,hb5⟩;obtain⟨a5,k5,rfl⟩:=row_shape3 hr5;have l5:w5.cell? ⟨w.heap.size,0,none⟩=some (.slice va gs.length vc):=jcell_after hb5 l0;have l6:∀o,(w5.alloc o).cell? ⟨w.heap.size,0,none⟩=some (.slice va gs.length vc):=(λo=>jcell_after (below_new w5 o) l5);have HR5:=hidd hr5;have HB5:=hidd hb5;clear hr5 hb5)
      refine hK.out _ _ trivial (λ_=>?_)
      clear hK K
      refine wpAnyH_ready (rs:=[3]) (by kernel_rfl) (by simp) ?_
      refine AllReadyH.cons rfl (λK hK=>?_) AllReadyH.nil
      go_simp
      refine hK.out _ _ trivial (λ_=>?_)
      clear hK K
      refine wpAnyH_ready (rs:=[4]) (by kernel_rfl) (by simp) ?_
      refine AllReadyH.cons rfl (λK hK=>?_) AllReadyH.nil
      have H5:=hidd (show Below W.heap.size W w5 from ⟨HB5.out.os,HB5.out.tape,HB5.out.output,HB5.out.size,HB5.out.block⟩)
      refine step_append_tells rfl _ _ 115 rfl w.heap.size _ i0 _ 4 48 underlying115 hi hz0 hz1 hz2 rfl (by decide) (.slice va gs.length vc) _ _ rfl (World.ownsRow.alloc ((KeepT.of_only (ts:=[]) (Only.of_below (S:=λ_=>False) H5.out) λ_ h=>h.elim).row HO.out.row (by decide)) _) ⟨w5.heap.size,0,none⟩ 1 1 [.slice a5 cl.length k5,.int .i64 y.fails,.bool (y.by_ !=0),.int .i64 (jobN y.job)] rfl rfl (cells_new w5 _ _) (by simp[Value.oneCell']) q1.out q3.out (Nat.le_trans HB.out.size (Nat.le_trans H5.out.size (below_new _ _).size)) ?_
      rintro v6 w6 hr6 hg6 -
      refine hK.out _ _ trivial (λ_=>?_)
      clear hK K
      obtain⟨a6,k6,rfl⟩:=row_shape3 hr6
      have HTr:=hidd (tr_snoc (B:=(w1.alloc (.cells #[.slice ta zs.length tcap] 195)).heap.size) HSg.out HCl.out HB.out HX.out (Nat.le_refl _) HE.out HO.out H5.out HR5.out hr6 hg6 HTv.out)
      have HX6:=hidd (tr_box HX.out HO.out.row H5.out hg6)
      have m6:=HX6.out.cell (i:=0) rfl
      have f6:=HX6.out.fr 0
      clear hr6 hg6
      refine wpAnyH_ready (rs:=[5]) (by kernel_rfl) (by simp) ?_
      refine AllReadyH.cons rfl (λK hK=>?_) AllReadyH.nil
      go_simp
      refine hK.out _ _ trivial (λ_=>?_)
      clear hK K
      refine wpAnyH_done (by kernel_rfl) ?_ _
      refine⟨rfl,?_⟩
      rw[List.map_append]
      exact HTr.out
    · go_simp
      go_wp2_with (go_at_call 148;refine hT.mono ?_;rintro e w5 ⟨⟨v5,rfl,hr5⟩,hb5⟩;obtain⟨a5,k5,rfl⟩:=row_shape3 hr5;have l5:w5.cell? ⟨w.heap.size,0,none⟩=some (.slice va gs.length vc):=jcell_after hb5 l0;have l6:∀o,(w5.alloc o).cell? ⟨w.heap.size,0,none⟩=some (.slice va gs.length vc):=(λo=>jcell_after (below_new w5 o) l5);have HR5:=hidd hr5;have HB5:=hidd hb5;clear hr5 hb5)
      refine hK.out _ _ trivial (λ_=>?_)
      clear hK K
      refine wpAnyH_ready (rs:=[0,3]) (by kernel_rfl) (by simp) ?_
      refine AllReadyH.cons rfl (λK hK=>?_) (AllReadyH.cons rfl (λK hK=>?_) AllReadyH.nil)
      · go_simp
        refine hK.out _ _ trivial (λ_=>?_)
        clear hK K
        refine wpAnyH_ready (rs:=[3]) (by kernel_rfl) (by simp) ?_
        refine AllReadyH.cons rfl (λK hK=>?_) AllReadyH.nil
        go_simp
        refine hK.out _ _ trivial (λ_=>?_)
        clear hK K
        refine wpAnyH_ready (rs:=[4]) (by kernel_rfl) (by simp) ?_
        refine AllReadyH.cons rfl (λK hK=>?_) AllReadyH.nil
        have H5:=hidd (show Below W.heap.size W w5 from ⟨HB5.out.os,HB5.out.tape,HB5.out.output,HB5.out.size,HB5.out.block⟩)
        refine step_append_tells rfl _ _ 115 rfl w.heap.size _ i0 _ 4 48 underlying115 hi hz0 hz1 hz2 rfl (by decide) (.slice va gs.length vc) _ _ rfl (World.ownsRow.alloc ((KeepT.of_only (ts:=[]) (Only.of_below (S:=λ_=>False) H5.out) λ_ h=>h.elim).row HO.out.row (by decide)) _) ⟨w5.heap.size,0,none⟩ 1 1 [.slice a5 cl.length k5,.int .i64 y.fails,.bool (y.by_ !=0),.int .i64 (jobN y.job)] rfl rfl (cells_new w5 _ _) (by simp[Value.oneCell']) q1.out q3.out (Nat.le_trans HB.out.size (Nat.le_trans H5.out.size (below_new _ _).size)) ?_
        rintro v6 w6 hr6 hg6 -
        refine hK.out _ _ trivial (λ_=>?_)
        clear hK K
        obtain⟨a6,k6,rfl⟩:=row_shape3 hr6
        have HTr:=hidd (tr_snoc (B:=(w1.alloc (.cells #[.slice ta zs.length tcap] 195)).heap.size) HSg.out HCl.out HB.out HX.out (Nat.le_refl _) HE.out HO.out H5.out HR5.out hr6 hg6 HTv.out)
        have HX6:=hidd (tr_box HX.out HO.out.row H5.out hg6)
        have m6:=HX6.out.cell (i:=0) rfl
        have f6:=HX6.out.fr 0
        clear hr6 hg6
        refine wpAnyH_ready (rs:=[5]) (by kernel_rfl) (by simp) ?_
        refine AllReadyH.cons rfl (λK hK=>?_) AllReadyH.nil
        go_simp
        refine hK.out _ _ trivial (λ_=>?_)
        clear hK K
        refine wpAnyH_done (by kernel_rfl) ?_ _
        refine⟨rfl,?_⟩
        rw[List.map_append]
        exact HTr.out
      · go_simp
        refine hK.out _ _ trivial (λ_=>?_)
        clear hK K
        refine wpAnyH_ready (rs:=[0]) (by kernel_rfl) (by simp) ?_
        refine AllReadyH.cons rfl (λK hK=>?_) AllReadyH.nil
        go_simp
        refine hK.out _ _ trivial (λ_=>?_)
        clear hK K
        refine wpAnyH_ready (rs:=[4]) (by kernel_rfl) (by simp) ?_
        refine AllReadyH.cons rfl (λK hK=>?_) AllReadyH.nil
        have H5:=hidd (show Below W.heap.size W w5 from ⟨HB5.out.os,HB5.out.tape,HB5.out.output,HB5.out.size,HB5.out.block⟩)
        refine step_append_tells rfl _ _ 115 rfl w.heap.size _ i0 _ 4 48 underlying115 hi hz0 hz1 hz2 rfl (by decide) (.slice va gs.length vc) _ _ rfl (World.ownsRow.alloc ((KeepT.of_only (ts:=[]) (Only.of_below (S:=λ_=>False) H5.out) λ_ h=>h.elim).row HO.out.row (by decide)) _) ⟨w5.heap.size,0,none⟩ 1 1 [.slice a5 cl.length k5,.int .i64 y.fails,.bool (y.by_ !=0),.int .i64 (jobN y.job)] rfl rfl (cells_new w5 _ _) (by simp[Value.oneCell']) q1.out q3.out (Nat.le_trans HB.out.size (Nat.le_trans H5.out.size (below_new _ _).size)) ?_
        rintro v6 w6 hr6 hg6 -
        refine hK.out _ _ trivial (λ_=>?_)
        clear hK K
        obtain⟨a6,k6,rfl⟩:=row_shape3 hr6
        have HTr:=hidd (tr_snoc (B:=(w1.alloc (.cells #[.slice ta zs.length tcap] 195)).heap.size) HSg.out HCl.out HB.out HX.out (Nat.le_refl _) HE.out HO.out H5.out HR5.out hr6 hg6 HTv.out)
        have HX6:=hidd (tr_box HX.out HO.out.row H5.out hg6)
        have m6:=HX6.out.cell (i:=0) rfl
        have f6:=HX6.out.fr 0
        clear hr6 hg6
        refine wpAnyH_ready (rs:=[5]) (by kernel_rfl) (by simp) ?_
        refine AllReadyH.cons rfl (λK hK=>?_) AllReadyH.nil
        go_simp
        refine hK.out _ _ trivial (λ_=>?_)
        clear hK K
        refine wpAnyH_done (by kernel_rfl) ?_ _
        refine⟨rfl,?_⟩
        rw[List.map_append]
        exact HTr.out
  case done=>
    rintro D ys W hD rfl hE hK
    have hE2:=(TrIs.own (ps:=zs.map Prod.fst) (b3:=w.heap.size) (zs:=zs) (w:=w) (B:=(w1.alloc (.cells #[.slice ta zs.length tcap] 195)).heap.size) (by have:=hB0.out.size;have:=HSz.out;omega)).putObj (.deferred none) hE hD hK rfl
    obtain⟨v,gs,hx,-,hO⟩:=hE.2
    obtain⟨va,vc,rfl⟩:=row_shape3 hO.row
    have m0:=hx.c 0 (.slice va gs.length vc)
    obtain⟨hb2,v2,gs2,hx2,he2,hO2⟩:=hE2
    have hv2:v2=.slice va gs.length vc:=by
      have h1:(W.putObj D (.deferred none)).heap[w.heap.size]? =W.heap[w.heap.size]? :=World.putObj_heap_other (by have:=hB0.out.size;have:=HSz.out;omega)
      have h2:(W.putObj D (.deferred none)).heap[w.heap.size]? =some (.cells #[v2] 115):=hx2
      have h3:W.heap[w.heap.size]? =some (.cells #[.slice va gs.length vc] 115):=hx
      rw[h1,h3] at h2
      injection h2 with h2
      injection h2 with h2
      simpa using h2.symm
    rw[List.attach_map_subtype_val,List.map_map] at he2
    have he3:gs2.map Prod.fst=s.segs.map tellS:=by
      rw[he2,<-HSnd.out,List.map_map]
      refine List.map_congr_left λz hz=>?_
      show tellS (sgOf zs z.1)=tellS z.2
      rw[sgOf_mem HNd.out hz]
    have HF:=hidd (show ((∃v gs',v=.slice va gs.length vc/\gs'.map Prod.fst=s.segs.map tellS/\SegsOut w.heap.size (W.putObj D (.deferred none)) v gs')/\Below w.heap.size w (W.putObj D (.deferred none))) from ⟨⟨v2,gs2,hv2,he3,hO2⟩,hb2⟩)
    clear hE hx hO hx2 he2 hO2 he3 hb2 hv2
    gi_wp2
    refine⟨by simp,.inl ⟨_,_,rfl,run_takeDeferred hK,?_⟩⟩
    obtain⟨⟨v',gs',rfl,h1,h2⟩,h3⟩:=HF.out
    exact⟨.slice va gs.length vc,by simp[results,results106,go_sem],⟨_,gs',rfl,h1,h2⟩,h3⟩
  case stop=>
    rintro D c pre W _ _ h _
    exact h.elim
end
section
open Go.Shelf
structure JobsOut (base N:Nat)(w:World)(v:Value)(js:List Jv):Prop where
  row:w.ownsRow base 124 4 v js.length (js.flatMap cJv)
  ids:∀y∈js,w.ownsRow base 3 1 y.2.1 y.1.2.2.1.length (y.1.2.2.1.map cI)
  tree:∀y∈js,∃fl:List Fl,w.ownsRow base 80 2 y.2.2 fl.length (fl.flatMap cF)/\Told fl y.1.2.2.2/\fl.length<=N
  ap:js.Pairwise λa b=>(∀g,a.2.1.ownBlock=some g->b.2.1.ownBlock≠some g)/\∀g,a.2.2.ownBlock=some g->b.2.2.ownBlock≠some g
theorem JobsOut.kept {base N:Nat}{w w':World}{v:Value}{js:List Jv}(h:JobsOut base N w v js)(hk:∀k,(v.ownBlock=some k\/∃y∈js,y.2.1.ownBlock=some k\/y.2.2.ownBlock=some k)->w'.heap[k]? =w.heap[k]?):JobsOut base N w' v js:=
  ⟨row_same2 h.row λg hg=>hk g (.inl hg),λy hy=>row_same2 (h.ids y hy) λg hg=>hk g (.inr ⟨y,hy,.inl hg⟩),λy hy=>by
    obtain⟨fl,h1,h2⟩:=h.tree y hy
    exact⟨fl,row_same2 h1 λg hg=>hk g (.inr ⟨y,hy,.inr hg⟩),h2⟩,h.ap⟩
theorem JobsOut.lt {base N:Nat}{w:World}{v:Value}{js:List Jv}(h:JobsOut base N w v js){k:Nat}(hk:v.ownBlock=some k\/∃y∈js,y.2.1.ownBlock=some k\/y.2.2.ownBlock=some k):k<w.heap.size/\(TyAt w k 124\/TyAt w k 3\/TyAt w k 80):=by
  rcases hk with hk|⟨y,hy,hk|hk⟩
  · exact⟨(World.ownsRow.lt h.row k hk).2,.inl (row_ty h.row hk)⟩
  · exact⟨(World.ownsRow.lt (h.ids y hy) k hk).2,.inr (.inl (row_ty (h.ids y hy) hk))⟩
  · obtain⟨fl,h1,_⟩:=h.tree y hy
    exact⟨(World.ownsRow.lt h1 k hk).2,.inr (.inr (row_ty h1 hk))⟩
structure JbAt (w W:World)(b3 b4 N:Nat)(v:Value)(js:List Jv)(u:Value)(al:List Nat):Prop where
  b:Below w.heap.size w W
  x3:Bx W b3 120 #[v]
  x4:Bx W b4 56 #[u]
  out:JobsOut w.heap.size N W v js
  ids:W.ownsRow w.heap.size 3 1 u al.length (al.map cI)
  ap:∀y∈js,∀g,y.2.1.ownBlock=some g->u.ownBlock≠some g
theorem JbAt.keptT {w W W':World}{b3 b4 N:Nat}{v u:Value}{js:List Jv}{al:List Nat}(h:JbAt w W b3 b4 N v js u al)(hb:Below w.heap.size w W'){ts:List TypeId}(K:KeepT W W' ts)(h1:120∉ts)(h2:56∉ts)(h3:124∉ts)(h4:3∉ts)(h5:80∉ts):JbAt w W' b3 b4 N v js u al:=
  ⟨hb,K.bx h.x3 h1,K.bx h.x4 h2,h.out.kept λk hk=>by
    rcases (h.out.lt hk).2 with h'|h'|h'
    · exact K.same _ _ h' h3
    · exact K.same _ _ h' h4
    · exact K.same _ _ h' h5,K.row h.ids h4,h.ap⟩
theorem keep_below {W W':World}(h:Below W.heap.size W W'):KeepT W W' []:=KeepT.of_only (Only.of_below (S:=λ_=>False) h) λ_ h=>h.elim
theorem JbAt.later {w W W':World}{b3 b4 N:Nat}{v u:Value}{js:List Jv}{al:List Nat}(h:JbAt w W b3 b4 N v js u al)(hb:Below W.heap.size W W'):JbAt w W' b3 b4 N v js u al:=
  h.keptT (h.b.trans (hb.mono h.b.size)) (keep_below hb) (by decide) (by decide) (by decide) (by decide) (by decide)
theorem only_keeps {W W':World}{S:Nat->Prop}{B n:Nat}{tv:Value}{xs:List Value}(hO:Only W W' S)(hS:∀k,S k->∃t,TyAt W k t/\t≠tMap/\t≠210)(htv:Sl W 210 1 tv n xs):KeepsFrom B W W'/\KpOf tv W W':=by
  refine⟨⟨hO.size,λk ob _ hk hf=>(hO.block k (Array.getElem?_eq_some_iff.1 hk).1 λe=>?_).trans hk⟩,λg hg=>hO.block g (htv.lt hg) λe=>?_⟩
  · obtain⟨t,ht,hne,_⟩:=hS k e
    rcases ht with ⟨cur,ht⟩|⟨e,_⟩
    · rw[ht] at hk;cases hk;cases hf
    · exact hne e
  · obtain⟨t,ht,_,hne⟩:=hS g e
    exact hne (ht.one (htv.ty hg))
theorem jb_ids {w W w5 w6:World}{b3 b4 N:Nat}{v u u':Value}{js:List Jv}{al al':List Nat}(h:JbAt w W b3 b4 N v js u al)(hb4:w.heap.size<=b4)(hb5:Below W.heap.size W w5)(hr6:w6.ownsRow w.heap.size 3 1 u' al'.length (al'.map cI))(hg6:w5.grownBy w6 u.ownBlock)(hu:u'.ownBlock=u.ownBlock\/u'.ownBlock=some w5.heap.size):
    JbAt w (w6.setCell ⟨b4,0,none⟩ u') b3 b4 N v js u' al'/\Only W (w6.setCell ⟨b4,0,none⟩ u') (λk=>u.ownBlock=some k\/k=b4)/\Bx w6 b4 56 #[u]:=by
  have h5:=h.later hb5
  have O6:Only w5 w6 (λk=>u.ownBlock=some k):=Only.of_grown hg6 λ_ h=>h
  have K6:KeepT w5 w6 [3]:=KeepT.of_only O6 λk hk=>⟨_,by simp,row_ty h5.ids hk⟩
  have B4:=K6.bx h5.x4 (by decide)
  have O7:Only w6 (w6.setCell ⟨b4,0,none⟩ u') (λk=>k=b4):=(Only.refl w6 (λk=>k=b4)).set (b:=b4) (.inl rfl)
  have K7:KeepT w6 (w6.setCell ⟨b4,0,none⟩ u') [56]:=KeepT.of_only O7 λk hk=>⟨56,by simp,by rw[hk];exact B4.ty⟩
  have o6:JobsOut w.heap.size N w6 v js:=h5.out.kept λk hk=>O6.block k (h5.out.lt hk).1 λe=>by
    rcases hk with hk|⟨y,hy,hk|hk⟩
    · exact absurd ((row_ty h5.out.row hk).one (row_ty h5.ids e)) (by decide)
    · exact h5.ap y hy k hk e
    · obtain⟨fl,h1,_⟩:=h5.out.tree y hy
      exact absurd ((row_ty h1 hk).one (row_ty h5.ids e)) (by decide)
  refine⟨⟨?_,K7.bx (K6.bx h5.x3 (by decide)) (by decide),B4.set 0 u',o6.kept λk hk=>?_,K7.row hr6 (by decide),λy hy g hg e=>?_⟩,?_,B4⟩
  · exact below_set (h5.b.grown hg6 h5.b.size λj hj=>(World.ownsRow.lt h.ids j hj).1) hb4 0 u'
  · rcases (o6.lt hk).2 with h'|h'|h'
    · exact K7.same _ _ h' (by decide)
    · exact K7.same _ _ h' (by decide)
    · exact K7.same _ _ h' (by decide)
  · rcases hu with hu|hu
    · exact h.ap y hy g hg (by rw[<-hu];exact e)
    · rw[hu] at e
      cases e
      have:=(World.ownsRow.lt (h5.out.ids y hy) _ hg).2
      omega
  · exact((Only.of_below hb5).trans (O6.mono λk hk=>.inl hk) λ_ h=>.inl h).trans (O7.mono λk hk=>.inr hk) λ_ h=>.inl h
theorem jb_job {w W X w10:World}{b3 b4 N:Nat}{v u v' r8 r9:Value}{js:List Jv}{al:List Nat}{o:Obj}{num til:Nat}{g:ByteArray->ByteArray}{fl:List Fl}(h:JbAt w W b3 b4 N v js u al)(hb3:w.heap.size<=b3)(hX:Below W.heap.size W X)(h8:X.ownsRow W.heap.size 3 1 r8 al.length (al.map cI))(h9:X.ownsRow W.heap.size 80 2 r9 fl.length (fl.flatMap cF))(hT:Told fl g)(hN:fl.length<=N)(hr:w10.ownsRow w.heap.size 124 4 v' (js.length+1) (js.flatMap cJv++[.int .i64 num,.int .i64 til,r8,r9]))(hg:(X.alloc o).grownBy w10 v.ownBlock):
    JbAt w (w10.setCell ⟨b3,0,none⟩ v') b3 b4 N v' (js++[((num,til,al,g),r8,r9)]) u al/\Only W (w10.setCell ⟨b3,0,none⟩ v') (λk=>v.ownBlock=some k\/k=b3)/\Bx w10 b3 120 #[v]:=by
  have hbA:Below W.heap.size W (X.alloc o):=hX.trans ((below_new _ _).mono hX.size)
  have hA:=h.later hbA
  have O2:Only (X.alloc o) w10 (λk=>v.ownBlock=some k):=Only.of_grown hg λ_ h=>h
  have K2:KeepT (X.alloc o) w10 [124]:=KeepT.of_only O2 λk hk=>⟨_,by simp,row_ty hA.out.row hk⟩
  have B3:=K2.bx hA.x3 (by decide)
  have O3:Only w10 (w10.setCell ⟨b3,0,none⟩ v') (λk=>k=b3):=(Only.refl w10 (λk=>k=b3)).set (b:=b3) (.inl rfl)
  have K3:KeepT w10 (w10.setCell ⟨b3,0,none⟩ v') [120]:=KeepT.of_only O3 λk hk=>⟨120,by simp,by rw[hk];exact B3.ty⟩
  have h8':=K3.row (K2.row (World.ownsRow.alloc (row_low h8 h.b.size) o) (by decide)) (by decide)
  have h9':=K3.row (K2.row (World.ownsRow.alloc (row_low h9 h.b.size) o) (by decide)) (by decide)
  refine⟨⟨?_,B3.set 0 v',K3.bx (K2.bx hA.x4 (by decide)) (by decide),⟨?_,λy hy=>?_,λy hy=>?_,?_⟩,K3.row (K2.row hA.ids (by decide)) (by decide),λy hy q hq=>?_⟩,?_,B3⟩
  · exact below_set (hA.b.grown hg hA.b.size λj hj=>(World.ownsRow.lt h.out.row j hj).1) hb3 0 v'
  · rw[List.length_append,List.flatMap_append]
    exact K3.row hr (by decide)
  · rcases List.mem_append.1 hy with hy|hy
    · exact K3.row (K2.row (hA.out.ids y hy) (by decide)) (by decide)
    · obtain rfl:=List.mem_singleton.1 hy
      exact h8'
  · rcases List.mem_append.1 hy with hy|hy
    · obtain⟨f,h1,h2⟩:=hA.out.tree y hy
      exact⟨f,K3.row (K2.row h1 (by decide)) (by decide),h2⟩
    · obtain rfl:=List.mem_singleton.1 hy
      exact⟨fl,h9',hT,hN⟩
  · rw[List.pairwise_append]
    refine⟨h.out.ap,by simp,λz hz z' hz'=>?_⟩
    obtain rfl:=List.mem_singleton.1 hz'
    refine⟨λq hq e=>?_,λq hq e=>?_⟩
    · have h1:=(World.ownsRow.lt (h.out.ids z hz) q hq).2
      have h2:=(World.ownsRow.lt h8 q e).1
      omega
    · obtain⟨f,h3,_⟩:=h.out.tree z hz
      have h1:=(World.ownsRow.lt h3 q hq).2
      have h2:=(World.ownsRow.lt h9 q e).1
      omega
  · rcases List.mem_append.1 hy with hy|hy
    · exact h.ap y hy q hq
    · obtain rfl:=List.mem_singleton.1 hy
      intro e
      have h1:=(World.ownsRow.lt h.ids q e).2
      have h2:=(World.ownsRow.lt h8 q hq).1
      omega
  · exact((Only.of_below hbA).trans (O2.mono λk hk=>.inl hk) λ_ h=>.inl h).trans (O3.mono λk hk=>.inr hk) λ_ h=>.inl h
def JbIs (w W:World)(b3 b4 N:Nat)(zs:List (Nat×Sm))(pre:List Nat):Prop:=∃v js u,JbAt w W b3 b4 N v js u (idsL (pre.map (sgOf zs)))/\js.map Prod.fst=jobsOf (pre.map (sgOf zs)) []
theorem JbIs.own {w:World}{b3 b4 N:Nat}{zs:List (Nat×Sm)}{ps:List Nat}{B:Nat}(hB:w.heap.size<=B):OwnFrom B (λ(pre:List (Pt ps)) W=>JbIs w W b3 b4 N zs (pre.map Subtype.val)):=λs W W' row hs hg hr=>by
  obtain⟨v,js,u,h,e⟩:=hs
  exact⟨v,js,u,h.keptT (below_own h.b (Nat.le_refl _) hg (λr e=>(hr r e).1) hB) (KeepT.own hg λr e=>(hr r e).2) (by decide) (by decide) (by decide) (by decide) (by decide),e⟩
def lastB (l:List Oper)(L:Nat):Bool:=l.length==L+1&&((List.range l.length).all λi=>match l[i]? with|some o=>o.after.toList.all λe=>decide (e.on<i)|none=>true)&&(match l[L]? with|some st=>(List.range L).all λj=>st.after.toList.any λe=>Region.binds .any e&&e.on==j|none=>false)
theorem wpIn_round_last {l n:Nat}{P:Program}{id:Nat}{ol:List Oper}(ops':Array Oper)(L:Nat)(st:Oper){Q:Exit->Act->World->Prop}{S:World->Prop}{a:Act}{w:World}(hm:P.follows .mixedOrders=true)(hdf:noDefer ol=true)(hL:¬LetsOut Q)(h1:ol.toArray[L]? =some st)(hd:st.dst=none)(hg:st.guard=none)(hB:lastB ol L=true)(he:ops'=ol.toArray.setIfInBounds L (nop st))(hS:S w.drew)(h:S w.drew->wpAnyH P .any ops' (Owed P st Q) S ops'.size (Array.replicate ops'.size false) a w.drew):(Code.region id ol.toArray true).wpIn (Fence.wide.inRound l) n P Q a w:=by
  have h1':ol[L]? =some st:=by rw[List.getElem?_toArray] at h1;exact h1
  simp only[lastB,Bool.and_eq_true,beq_iff_eq,List.all_eq_true,h1',List.any_eq_true,List.mem_range] at hB
  obtain⟨⟨hsz,hlt⟩,hn⟩:=hB
  refine wpIn_round_owed ops' L st hm hdf hL h1 hd hg (by simpa using hsz) (λi o e ho hm=>?_) (λ_=>L) (λj hj=>⟨hj,Nat.le_refl _,st,h1,?_⟩) he hS h
  · rw[List.getElem?_toArray] at ho
    have h2:=hlt i (List.getElem?_eq_some_iff.1 ho).1
    rw[ho] at h2
    have:=h2
    simp only[List.all_eq_true,decide_eq_true_eq] at this
    exact this e (by simpa using hm)
  · obtain⟨e,hm,hb,ho⟩:=hn j hj
    exact⟨e,by simpa using hm,hb,ho⟩
end
section
open Go.Shelf
theorem js_val (js:List Jv)(h:∀y∈js,IsSl y.2.1/\IsSl y.2.2):∃l:List Js,l.map Subtype.val=js:=⟨js.attach.map λy=>⟨y.1,h y.1 y.2⟩,by rw[List.map_map];exact List.attach_map_subtype_val js⟩
theorem js_flat:∀l:List Js,l.flatMap cJs=(l.map Subtype.val).flatMap cJv
  |[]=>rfl
  |y::l=>by rw[List.flatMap_cons,List.map_cons,List.flatMap_cons,js_flat l];rfl
theorem sort_jobs (js:List Jv)(v:Value)(base:Nat)(w:World)(hrow:w.ownsRow base 124 4 v js.length (js.flatMap cJv))(h:∀y∈js,IsSl y.2.1/\IsSl y.2.2)(hn:js.length<8796093022208):
    Calls prog 151 #[v,.func (.func 152) #[] #[]] w λe w'=>
      e=.returned (.tuple #[])/\(∃js':List Jv,js'.Perm js/\js'.Pairwise (λa b=>¬b.1.1<a.1.1)/\w'.ownsRow base 124 4 v js'.length (js'.flatMap cJv))/\w.grownBy w' v.ownBlock:=by
  rcases hrow.2 with ⟨hv,h0⟩|⟨g,cap,cur,hv,_⟩
  · subst hv
    obtain rfl:js=[]:=List.eq_nil_of_length_eq_zero h0
    refine(jSort0 _ w).mono ?_
    rintro e w' ⟨rfl,rfl⟩
    exact⟨rfl,⟨[],List.Perm.refl _,List.Pairwise.nil,hrow⟩,⟨rfl,rfl,rfl,Nat.le_refl _,λ_ _ _=>rfl⟩⟩
  · subst hv
    obtain⟨l,hl⟩:=js_val js h
    have hlen:l.length=js.length:=by rw[<-hl,List.length_map]
    have hr':w.ownsRow base 124 4 (.slice (some ⟨g,0,none⟩) l.length cap) l.length (l.flatMap cJs):=by rw[js_flat,hl,hlen];exact hrow
    have hc:=sort_job l g cap base w hr' (by omega)
    rw[hlen] at hc
    refine hc.mono ?_
    rintro e w' ⟨rfl,⟨l',hp,hs,hr⟩,hg⟩
    refine⟨rfl,⟨l'.map Subtype.val,by rw[<-hl];exact hp.map _,List.pairwise_map.2 hs,?_⟩,hg⟩
    have h2:l'.length=js.length:=by rw[hp.length_eq,hlen]
    rw[List.length_map,<-js_flat]
    rw[h2] at hr ⊢
    exact hr
theorem JobsOut.sorted {base N:Nat}{w w':World}{v:Value}{js js':List Jv}(h:JobsOut base N w v js)(hp:js'.Perm js)(hr:w'.ownsRow base 124 4 v js'.length (js'.flatMap cJv))(hg:w.grownBy w' v.ownBlock):JobsOut base N w' v js'/\KeepT w w' [124]:=by
  have K:KeepT w w' [124]:=KeepT.of_only (Only.of_grown (S:=λk=>v.ownBlock=some k) hg λ_ h=>h) λk hk=>⟨_,by simp,row_ty h.row hk⟩
  refine⟨⟨hr,λy hy=>K.row (h.ids y (hp.mem_iff.1 hy)) (by decide),λy hy=>?_,?_⟩,K⟩
  · obtain⟨fl,h1,h2⟩:=h.tree y (hp.mem_iff.1 hy)
    exact⟨fl,K.row h1 (by decide),h2⟩
  · refine(List.Perm.pairwise_iff (fun {a b} hab=>⟨λg hb ha=>hab.1 g ha hb,λg hb ha=>hab.2 g ha hb⟩) hp).2 h.ap
theorem keep_put {W:World}{D:Nat}{o o':Obj}(hD:W.heap[D]? =some o)(hc:o.isCells=false):KeepT W (W.putObj D o') [tMap]:=
  ⟨by simp[World.putObj],λk t hk ht=>World.putObj_heap_other λe=>by
    rcases hk with ⟨cur,hk⟩|⟨rfl,_⟩
    · rw[<-e,hk] at hD;cases hD;cases hc
    · exact ht (by simp)⟩
theorem below_put {w W:World}{D:Nat}{o':Obj}(h:Below w.heap.size w W)(hD:w.heap.size<=D):Below w.heap.size w (W.putObj D o'):=
  ⟨h.os,h.tape,h.output,Nat.le_trans h.size (by simp[World.putObj]),λk hk=>(World.putObj_heap_other (by omega)).trans (h.block k hk)⟩
theorem JobsOut.sls {base N:Nat}{w:World}{v:Value}{js:List Jv}(h:JobsOut base N w v js):∀y∈js,IsSl y.2.1/\IsSl y.2.2:=λy hy=>by
  obtain⟨fl,h1,_⟩:=h.tree y hy
  obtain⟨a,k,e⟩:=row_shape3 (h.ids y hy)
  obtain⟨a',k',e'⟩:=row_shape3 h1
  exact⟨⟨a,_,k,e⟩,⟨a',_,k',e'⟩⟩
theorem jobs_end {w W w2:World}{b3 b4 N D:Nat}{v u:Value}{js js':List Jv}{al:List Nat}(h:JbAt w W b3 b4 N v js u al)(hp:js'.Perm js)(hr:w2.ownsRow w.heap.size 124 4 v js'.length (js'.flatMap cJv))(hg:W.grownBy w2 v.ownBlock)(hK:W.heap[D]? =some (.deferred (some [])))(hD:w.heap.size<=D):
    Bx w2 b3 120 #[v]/\w2.heap[D]? =some (.deferred (some []))/\JobsOut w.heap.size N (w2.putObj D (.deferred none)) v js'/\Below w.heap.size w (w2.putObj D (.deferred none)):=by
  obtain⟨o2,K2⟩:=h.out.sorted hp hr hg
  have hK2:w2.heap[D]? =some (.deferred (some [])):=(hg.block D (Array.getElem?_eq_some_iff.1 hK).1 λe=>by
    obtain⟨cur,h1⟩:=row_typed h.out.row e.symm
    rw[h1] at hK;cases hK).trans hK
  have KD:=keep_put (o':=.deferred none) hK2 rfl
  refine⟨K2.bx h.x3 (by decide),hK2,o2.kept λk hk=>?_,below_put (h.b.grown hg h.b.size λj hj=>(World.ownsRow.lt h.out.row j hj).1) hD⟩
  rcases (o2.lt hk).2 with h'|h'|h'
  · exact KD.same _ _ h' (by decide)
  · exact KD.same _ _ h' (by decide)
  · exact KD.same _ _ h' (by decide)
end
section
open Go.Shelf
attribute [local go_sem] Oper.semAt_some
theorem files_one (fl:List Fl):∀u∈fl.flatMap cF,u.oneCell'=true:=λu hu=>by
  obtain⟨f,_,hu⟩:=List.mem_flatMap.1 hu
  simp[cF] at hu
  rcases hu with rfl|rfl<;>rfl
theorem tyat_same {W W':World}{k:Nat}{t:TypeId}(h:TyAt W k t)(e:W'.heap[k]? =W.heap[k]?):TyAt W' k t:=by
  unfold TyAt at *
  rw[e]
  exact h
theorem keep_grown {W X w10:World}{v:Value}{base n:Nat}{xs:List Value}{o:Obj}(hX:Below W.heap.size W X)(hr:W.ownsRow base 124 4 v n xs)(hg:(X.alloc o).grownBy w10 v.ownBlock):KeepT W w10 [124]:=by
  have hbA:Below W.heap.size W (X.alloc o):=hX.trans ((below_new _ _).mono hX.size)
  have K2:KeepT (X.alloc o) w10 [124]:=KeepT.of_only (Only.of_grown (S:=λk=>v.ownBlock=some k) hg λ_ h=>h) λk hk=>⟨_,by simp,row_ty ((keep_below hbA).row hr (by decide)) hk⟩
  exact⟨Nat.le_trans hbA.size K2.size,λk t hk ht=>(K2.same k t (tyat_same hk ((keep_below hbA).same k t hk (by simp))) ht).trans ((keep_below hbA).same k t hk (by simp))⟩
theorem idsL_le:∀(l:List Sm),(∀x∈l,x.l.length<=8)->(idsL l).length<=8*l.length
  |[],_=>by simp[idsL]
  |x::l,h=>by
    have h1:=idsL_le l λz hz=>h z (List.mem_cons_of_mem _ hz)
    have h2:=h x List.mem_cons_self
    have h3:(idsL (x::l)).length=x.l.length+(idsL l).length:=by simp[idsL]
    rw[h3,List.length_cons]
    omega
theorem nop_ready {P:Program}{ops:Array Oper}{st:Oper}{a:Act}{w:World}{K:Act->World->Prop}{Q:Exit->Act->World->Prop}{E:Prop}(hg:st.guard=none)(h:K a w):if Region.wanted (nop st) (yielded ops a.tmps)=true then (nop st).wp P a w K Q else E:=by
  have hw:Region.wanted (nop st) (yielded ops a.tmps)=true:=by simp[Region.wanted,nop,hg]
  rw[if_pos hw]
  unfold Oper.wp
  simpa[nop,execOp,Oper.upon,Act.put,Act.eval] using h
set_option linter.unusedSimpArgs false in
theorem yJobs {S:Nat->Prop}{yb mb n0:Nat}{c:Cfg}{s:Ts}{w:World}{q:List Pw}{sb:Nat}{qv ov:Value}{x:Xt}{tl:List Tp}{zs:List (Nat×Sm)}(h:YardZ w S yb mb n0 c s q sb qv ov x tl zs)(hl:zs.length<=8)(hn:∀z∈zs,1<=z.2.l.length/\z.2.l.length<=8)(htop:s.top n0<4398046511104):
    Calls prog 108 #[.pointer (some ⟨yb,0,none⟩)] w λe w'=>(∃v js,e=.returned v/\(js.map Prod.fst).Perm (jobsOf s.segs [])/\js.Pairwise (λa b=>¬b.1.1<a.1.1)/\JobsOut w.heap.size (s.top n0) w' v js)/\Below w.heap.size w w':=by
  obtain⟨i0,hi,hz0,hz1,hz2⟩:=info_parts info_int
  obtain⟨j0,hj,hy0,hy1,hy2⟩:=info_parts info_jobD
  obtain⟨ta,tcap,htv⟩:=h.rest.train.row.form
  have hB1:Below w.heap.size w ((w.alloc (.cells #[.slice none 0 0] 120)).alloc (.cells #[.slice none 0 0] 56)):=(below_new _ _).trans ((below_new _ _).mono (by simp))
  have h1:=h.later hB1
  have c11:((w.alloc (.cells #[.slice none 0 0] 120)).alloc (.cells #[.slice none 0 0] 56)).cell? ⟨yb,11,none⟩=some (.slice ta zs.length tcap):=by rw[<-htv];exact h1.is.box.cell (i:=11) rfl
  have hpl:(zs.map Prod.fst).length=zs.length:=List.length_map _
  have HTw:Hid (Sl w 210 1 (.slice ta zs.length tcap) zs.length ((zs.map Prod.fst).map ptr)):=by
    have:=h.rest.train.row
    rw[htv] at this
    show Sl _ _ _ _ _ _
    rw[List.map_map]
    exact this
  have HRow:Hid (Sl ((w.alloc (.cells #[.slice none 0 0] 120)).alloc (.cells #[.slice none 0 0] 56)) 210 1 (.slice ta zs.length tcap) zs.length ((zs.map Prod.fst).map ptr)):=HTw.out.later hB1
  have HSegs:Hid (∀z∈zs,SegAt w S (s.top n0) z):=h.rest.train.segs
  have HNd:Hid ((zs.map Prod.fst).Nodup):=h.rest.train.nd
  have HSnd:Hid (zs.map Prod.snd=s.segs):=h.rest.train.snd
  have HN:Hid (∀z∈zs,1<=z.2.l.length/\z.2.l.length<=8):=hn
  have HTop:Hid (s.top n0<4398046511104):=htop
  have HSz:Hid (((w.alloc (.cells #[.slice none 0 0] 120)).alloc (.cells #[.slice none 0 0] 56)).heap.size=w.heap.size+1+1):=by show _=_;simp
  have HJ0:Hid (JbAt w ((w.alloc (.cells #[.slice none 0 0] 120)).alloc (.cells #[.slice none 0 0] 56)) w.heap.size (w.heap.size+1) (s.top n0) (.slice none 0 0) [] (.slice none 0 0) []):=
    ⟨hB1,(Bx.new _ _ _).mk _,by have:=Bx.new (w.alloc (.cells #[.slice none 0 0] 120)) #[.slice none 0 0] 56;rwa [World.size_alloc] at this,⟨World.ownsRow_nil _ _ _ _,by simp,by simp,List.Pairwise.nil⟩,World.ownsRow_nil _ _ _ _,by simp⟩
  clear h h1 htv hn hB1 htop
  refine(callsIn_wide (n:=3)).1 ?_
  refine callsIn_of_wp_marks func108 rfl trivial ?_ rfl
  simp only[ntmps108,List.size_toArray,List.length_cons,List.length_nil,Nat.reduceAdd,Nat.reduceSub,Array.replicate_succ,Array.replicate_zero,List.push_toArray,List.append_toArray,List.nil_append,List.cons_append]
  gi_upto_region 3 with fail
  generalize (w.alloc (.cells #[.slice none 0 0] 120)).alloc (.cells #[.slice none 0 0] 56)=w1 at *
  have hB0:Hid (Below w1.heap.size w1 (w1.alloc (.cells #[.slice ta zs.length tcap] 195))):=below_new _ _
  gi_wp2_with (refine⟨trivial,?_⟩;gi_at_call 147;refine(callsIn_wide.2 (lineAll yb ta zs.length tcap w1 c11)).mono ?_;rintro e w' ⟨rfl,rfl⟩)
  refine wpIn_rangeFunc_ownG (α:=Pt (zs.map Prod.fst)) (n:=3) (F:=Fence.wide) rfl (by decide) (gf:=223) (lb:=#[.pointer (some ⟨w1.heap.size,0,none⟩)]) rfl trivial (enters_of func223 (by kernel_rfl) rfl)
    (sv_stops Fence.wide 2 trivial rfl (by decide) w1.heap.size (.slice ta zs.length tcap) (zs.map Prod.fst) (by rw[hpl];omega) (w1.alloc (.cells #[.slice ta zs.length tcap] 195)) (by simp) (by simp) (by rw[hpl];exact HRow.out.mk _)) kpOf_t (kpOf_b λg hg=>Nat.lt_of_lt_of_le (HRow.out.lt hg) hB0.out.size) (Below.refl _ _) (λ_=>rfl)
    (λpre W=>JbIs w W w.heap.size (w.heap.size+1) (s.top n0) zs (pre.map Subtype.val)) (λ_ _ _=>False) (JbIs.own (by have:=hB0.out.size;have:=HSz.out;omega)) (λ_ _ _ _ _ hs _ _=>hs) ⟨_,_,_,HJ0.out.later hB0.out,rfl⟩
    (λy=>{tmps:=#[.pointer (some ⟨yb,0,none⟩),undef,.slice none 0 0,.pointer (some ⟨w.heap.size,0,none⟩),.pointer (some ⟨w.heap.size+1,0,none⟩),.pointer (some ⟨y.1,0,none⟩),undef,.pointer (some ⟨yb,0,none⟩),.pointer (some ⟨yb,0,none⟩),.pointer (some ⟨yb,11,none⟩),.func (.func 223) #[] #[.pointer (some ⟨w1.heap.size,0,none⟩)],.pointer (some ⟨y.1,0,none⟩),undef,undef,undef,undef,undef,undef,undef,undef,undef,undef,undef,undef,undef,undef,undef,undef,undef,undef,undef,undef,undef,undef,undef,undef,undef,undef,undef,undef,undef,undef,undef,undef],defers:=[]}) ?assign ?body ?done ?stop
  case assign=>
    intro l y W K hK
    unfold ptr
    gi_wp2
    exact hK
  case body=>
    rintro l pre ⟨p,hp⟩ W ⟨v,js,u,hA,he⟩ hpre
    obtain⟨⟨p',y⟩,hz,rfl⟩:=List.mem_map.1 hp
    obtain⟨al,hal⟩:∃al,al=idsL ((pre.map Subtype.val).map (sgOf zs)):=⟨_,rfl⟩
    rw[<-hal] at hA
    have HAl:Hid (al=idsL ((pre.map Subtype.val).map (sgOf zs))):=hal
    clear hal
    obtain⟨va,vc,rfl⟩:=row_shape3 hA.out.row
    obtain⟨ua,uc,rfl⟩:=row_shape3 hA.ids
    obtain⟨cv,jv,cl,hseg⟩:=(HSegs.out (p',y) hz).kept (w':=W.drew) (λk hk _=>hA.b.block k hk) (λ_ h=>h) (Nat.le_refl _)
    have hcl:cl.length=y.l.length:=chs_len hseg.chs
    have hny:=HN.out _ hz
    simp only at hny
    have hT:=segIds p' _ cv cl W.drew hseg.box rfl hseg.chs.row hseg.chs.sl (by omega)
    unfold ptr at hT
    have hxd:Bx W.drew (w.heap.size+1) 56 #[.slice ua al.length uc]:=hA.x4
    have l0:W.drew.cell? ⟨w.heap.size+1,0,none⟩=some (.slice ua al.length uc):=hxd.cell (i:=0) rfl
    have HCl:Hid (cl.map Prod.fst=y.l/\cl.length=y.l.length):=⟨hseg.chs.fst,hcl⟩
    have HSg:Hid (sgOf zs p'=y):=sgOf_mem HNd.out hz
    have HTv:Hid (Sl W 210 1 (.slice ta zs.length tcap) zs.length ((zs.map Prod.fst).map ptr)):=HTw.out.later hA.b
    have hall:al.length<=64/\js.length<=8:=by
      have h1:=congrArg List.length he
      have h2:=jobsOf_len ((pre.map Subtype.val).map (sgOf zs)) []
      have h3:=idsL_le ((pre.map Subtype.val).map (sgOf zs)) (λz hz=>by
        obtain⟨k,hk,rfl⟩:=List.mem_map.1 hz
        obtain⟨⟨k',hk'⟩,_,rfl⟩:=List.mem_map.1 hk
        obtain⟨⟨k'',z⟩,hz',rfl⟩:=List.mem_map.1 hk'
        rw[sgOf_mem HNd.out hz']
        exact(HN.out _ hz').2)
      rw[<-HAl.out] at h3
      simp only[List.length_map] at h1 h2 h3 hpre
      omega
    have HE:Hid (js.map Prod.fst=jobsOf ((pre.map Subtype.val).map (sgOf zs)) []):=he
    have HA:Hid (JbAt w W w.heap.size (w.heap.size+1) (s.top n0) (.slice va js.length vc) js (.slice ua al.length uc) al):=hA
    have hc8:cl.length<=8:=by omega
    have hc1:1<=cl.length:=by omega
    clear hseg he hA hpre hxd hcl hny
    have q1:Hid (al.length+cl.length<=maxLen):=by show _<=_;unfold maxLen;omega
    have q3:Hid ((al.length+cl.length)*8<=140737488355328):=by show _<=_;omega
    obtain⟨R,hR⟩:∃R:World->Prop,R=λW'=>KeepsFrom (w1.alloc (.cells #[.slice ta zs.length tcap] 195)).heap.size W W'/\KpOf (.slice ta zs.length tcap) W W'/\JbIs w W' w.heap.size (w.heap.size+1) (s.top n0) zs ((pre++[(⟨p',hp⟩:Pt (zs.map Prod.fst))]).map Subtype.val):=⟨_,rfl⟩
    have HR:Hid (∀W',(KeepsFrom (w1.alloc (.cells #[.slice ta zs.length tcap] 195)).heap.size W W'/\KpOf (.slice ta zs.length tcap) W W'/\JbIs w W' w.heap.size (w.heap.size+1) (s.top n0) zs ((pre++[(⟨p',hp⟩:Pt (zs.map Prod.fst))]).map Subtype.val))->R W'):=λW' h=>by rw[hR];exact h
    refine wpIn_ends R (λ_ _ h=>by rw[hR] at h;exact h) ?_
    clear hR
    refine wpIn_block (wpIn_seq (wpIn_round_last _ 4 _ (S:=λw'=>w'.cell? ⟨w.heap.size+1,0,none⟩=some (.slice ua al.length uc)) rfl rfl (λ⟨_,_,h⟩=>by cases h.1) rfl rfl rfl (by kernel_rfl) (by simp only[List.setIfInBounds_toArray,List.set_cons_zero,List.set_cons_succ];rfl) l0 (λhHeld=>?_)))
    refine tk 0 ?_
    refine tk 1 ?_
    refine wpAnyH_ready (rs:=[2]) (by kernel_rfl) (by simp) ?_
    refine AllReadyH.cons rfl (λK hK=>?_) AllReadyH.nil
    go_simp
    go_wp2_with (go_at_call 149;refine hT.mono ?_;rintro e w5 ⟨⟨v5,rfl,hr5⟩,hb5⟩;obtain⟨a5,k5,rfl⟩:=row_shape3 hr5)
    have H5:=hidd (show Below W.heap.size W w5 from ⟨hb5.os,hb5.tape,hb5.output,hb5.size,hb5.block⟩)
    have HR5:=hidd hr5
    refine hK.out _ _ (jcell_after hb5 l0) (λhHeld=>?_)
    clear hK K hr5 hb5 hT
    obtain⟨g5,rfl⟩:∃g5,a5=some ⟨g5,0,none⟩:=by
      rcases HR5.out.2 with ⟨_,h0⟩|⟨g,cap,cur,e,_⟩
      · omega
      · injection e with e1 _ _
        exact⟨g,e1⟩
    have HC5:Hid (∀j u,(cl.map λy=>cI y.1.1)[j]? =some u->w5.cell? ((⟨g5,0,none⟩:Addr).add j)=some u):=HR5.out.cells rfl
    have HO5:Hid (∀u∈cl.map λy=>cI y.1.1,u.oneCell'=true):=λu hu=>by
      obtain⟨z,_,rfl⟩:=List.mem_map.1 hu
      rfl
    refine wpAnyH_ready (rs:=[3]) (by kernel_rfl) (by simp) ?_
    refine AllReadyH.cons rfl (λK hK=>?_) AllReadyH.nil
    refine step_append_tells rfl _ _ 56 rfl w.heap.size _ i0 _ 1 8 underlying56 hi hz0 hz1 hz2 rfl (by decide) (.slice ua al.length uc) _ _ rfl ((keep_below H5.out).row HA.out.ids (by decide)) ⟨g5,0,none⟩ cl.length k5 (cl.map λy=>cI y.1.1) rfl (by simp) HC5.out HO5.out q1.out q3.out (Nat.le_trans HA.out.b.size H5.out.size) ?_
    rintro u6 w6 hr6 hg6 hu6
    obtain⟨al7,hal7⟩:∃al7,al7=al++y.l.map Prod.fst:=⟨_,rfl⟩
    have hr7:w6.ownsRow w.heap.size 3 1 u6 al7.length (al7.map cI):=by
      rw[hal7,<-HCl.out.1,List.length_append,List.length_map,List.length_map,List.map_append,List.map_map,List.map_map]
      exact hr6
    have HAl7:Hid (al7=al++y.l.map Prod.fst):=hal7
    clear hal7
    obtain⟨h7,o7,b6⟩:=jb_ids HA.out (Nat.le_succ _) H5.out hr7 hg6 hu6
    obtain⟨a6,k6,rfl⟩:=row_shape3 hr7
    have HA7:=hidd h7
    have HO7:=hidd o7
    have m6:=b6.c 0 (.slice ua al.length uc)
    have f6:=b6.fr 0
    refine hK.out _ _ m6 (λhHeld=>?_)
    clear hK K hr6 hg6 hu6 hr7 h7 o7 b6 HC5 HO5 HR5 q1 q3
    refine wpAnyH_ready (rs:=[4]) (by kernel_rfl) (by simp) ?_
    refine AllReadyH.cons rfl (λK hK=>?_) AllReadyH.nil
    refine nop_ready rfl ?_
    refine hK.out _ _ m6 (λhHeld=>?_)
    clear hK K
    refine wpAnyH_done (by kernel_rfl) ?_ _
    unfold Owed
    go_simp
    generalize w6.setCell ⟨w.heap.size+1,0,none⟩ (.slice a6 al7.length k6)=w7 at *
    obtain⟨cv7,jv7,cl7,hs7⟩:=(HSegs.out (p',y) hz).kept (w':=w7) (λk hk _=>HA7.out.b.block k hk) (λ_ h=>h) (Nat.le_refl _)
    have c3:w7.cell? ⟨p',3,none⟩=some jv7:=hs7.box.cell (i:=3) rfl
    have HJ:Hid (JobIs w7 S (s.top n0) jv7 y.job):=hs7.job
    have HK7:=hidd (only_keeps (B:=(w1.alloc (.cells #[.slice ta zs.length tcap] 195)).heap.size) HO7.out (λk hk=>by
      rcases hk with hk|hk
      · exact⟨_,row_ty HA.out.ids hk,by decide,by decide⟩
      · exact⟨56,by rw[hk];exact HA.out.x4.ty,by decide,by decide⟩) HTv.out)
    have HTv7:Hid (Sl w7 210 1 (.slice ta zs.length tcap) zs.length ((zs.map Prod.fst).map ptr)):=HTw.out.later HA7.out.b
    have HIds:Hid (al++y.l.map Prod.fst=idsL (((pre++[(⟨p',hp⟩:Pt (zs.map Prod.fst))]).map Subtype.val).map (sgOf zs))):=by
      show _=_
      rw[List.map_append,List.map_append,HAl.out]
      simp[idsL,HSg.out]
    have HJs:Hid (jobsOf (((pre++[(⟨p',hp⟩:Pt (zs.map Prod.fst))]).map Subtype.val).map (sgOf zs)) []=js.map Prod.fst++jb y al):=by
      show _=_
      rw[List.map_append,List.map_append,HE.out,HAl.out]
      show jobsOf (_++[sgOf zs p']) []=_
      rw[HSg.out,jobsOf_snoc,List.nil_append]
    rw[<-HAl7.out] at HIds
    have hal8:al7.length<=72:=by rw[HAl7.out,List.length_append,List.length_map];have:=HCl.out.2;omega
    clear hs7 HSegs HA HO7 m6 f6 HTv HAl H5 l0
    cases ej:y.job with
    |none=>
      obtain rfl:jv7=.pointer none:=by have:=HJ.out;rw[ej] at this;exact this
      clear HJ
      gi_wp2
      refine⟨by trivial,HR.out _ ⟨HK7.out.1,HK7.out.2,_,js,_,by rw[<-HIds.out];exact HA7.out,?_⟩⟩
      rw[HJs.out]
      simp[jb,ej]
    |some j=>
      obtain⟨jb0,jt,fl,rfl,hJ,hJS,hJT,hJN,-,-⟩:JobIs w7 S (s.top n0) jv7 (some j):=ej▸HJ.out
      obtain⟨ja,jc,rfl⟩:=hJS.form
      unfold ptr at c3
      have HCI:Hid (∀X,Below w7.heap.size w7 X->Calls prog 146 #[.slice a6 al7.length k6] X λe X'=>(∃v',e=.returned v'/\X'.ownsRow X.heap.size 3 1 v' al7.length (al7.map cI))/\Below X.heap.size X X'):=λX hX=>intClone _ _ _ X ((Sl.of_row HA7.out.ids).later hX) (ints_one _) (by unfold maxLen;omega) (by omega)
      have HCF:Hid (∀X,Below w7.heap.size w7 X->Calls prog 150 #[.slice ja fl.length jc] X λe X'=>(∃v',e=.returned v'/\X'.ownsRow X.heap.size 80 2 v' fl.length (fl.flatMap cF))/\Below X.heap.size X X'):=λX hX=>fileClone _ _ _ X (hJS.later hX) (files_one fl) (by have:=HTop.out;unfold maxLen;omega) (by have:=HTop.out;omega)
      have HJb:Hid (Bx w7 jb0 242 #[.int .i64 j.num,.int .i64 j.til,.slice ja fl.length jc]):=hJ
      have HJT:Hid (Told fl j.files/\fl.length<=s.top n0):=⟨hJT,hJN⟩
      have q4:Hid (js.length+1<=maxLen):=by show _<=_;unfold maxLen;omega
      have q5:Hid ((js.length+1)*64<=140737488355328):=by show _<=_;omega
      clear hJ hJS hJT hJN HJ HTop
      gi_wp2
      have z3:w7.drew.cell? ⟨w.heap.size,0,none⟩=some (.slice va js.length vc):=HA7.out.x3.cell (i:=0) rfl
      have z4:w7.drew.cell? ⟨w.heap.size+1,0,none⟩=some (.slice a6 al7.length k6):=HA7.out.x4.cell (i:=0) rfl
      have zj0:w7.drew.cell? ⟨jb0,0,none⟩=some (.int .i64 j.num):=HJb.out.cell (i:=0) rfl
      have zj1:w7.drew.cell? ⟨jb0,1,none⟩=some (.int .i64 j.til):=HJb.out.cell (i:=1) rfl
      have zj2:w7.drew.cell? ⟨jb0,2,none⟩=some (.slice ja fl.length jc):=HJb.out.cell (i:=2) rfl
      refine wpIn_round_last _ 19 _ (S:=λw'=>w'.cell? ⟨w.heap.size,0,none⟩=some (.slice va js.length vc)/\w'.cell? ⟨w.heap.size+1,0,none⟩=some (.slice a6 al7.length k6)/\w'.cell? ⟨jb0,0,none⟩=some (.int .i64 j.num)/\w'.cell? ⟨jb0,1,none⟩=some (.int .i64 j.til)/\w'.cell? ⟨jb0,2,none⟩=some (.slice ja fl.length jc)) rfl rfl (λ⟨_,_,h⟩=>by cases h.1) rfl rfl rfl (by kernel_rfl) (by simp only[List.setIfInBounds_toArray,List.set_cons_zero,List.set_cons_succ];rfl) ⟨z3,z4,zj0,zj1,zj2⟩ (λhHeld=>?_)
      refine tk 0 ?_
      refine tk 1 ?_
      refine tk 2 ?_
      refine tk 3 ?_
      refine tk 4 ?_
      refine tk 5 ?_
      refine tk 6 ?_
      refine tk 7 ?_
      refine tk 8 ?_
      refine tk 9 ?_
      refine tk 11 ?_
      refine tk 12 ?_
      refine tk 13 ?_
      refine tk 14 ?_
      refine wpAnyH_ready (rs:=[10]) (by kernel_rfl) (by simp) ?_
      refine AllReadyH.cons rfl (λK hK=>?_) AllReadyH.nil
      go_simp
      go_wp2_with (go_at_call 146;refine(HCI.out _ (below_dr (Below.refl _ _))).mono ?_;rintro e y1 ⟨⟨v8,rfl,hr8⟩,hb8⟩;obtain⟨a8,k8,rfl⟩:=row_shape3 hr8)
      have r1:=hidd (show y1.ownsRow w7.heap.size _ _ _ _ _ from hr8)
      have b1:=hidd (show Below w7.heap.size w7 y1 from ⟨hb8.os,hb8.tape,hb8.output,hb8.size,hb8.block⟩)
      have bw:Below w7.heap.size w7 y1:=b1.out
      refine hK.out _ _ ⟨jcell_after (w:=w7) bw z3,jcell_after (w:=w7) bw z4,jcell_after (w:=w7) bw zj0,jcell_after (w:=w7) bw zj1,jcell_after (w:=w7) bw zj2⟩ (λhHeld=>?_)
      clear hK K hr8 hb8 bw
      refine wpAnyH_ready (rs:=[15]) (by kernel_rfl) (by simp) ?_
      refine AllReadyH.cons rfl (λK hK=>?_) AllReadyH.nil
      go_simp
      go_wp2_with (go_at_call 150;refine(HCF.out _ b1.out).mono ?_;rintro e X ⟨⟨v8,rfl,hr8⟩,hb8⟩;obtain⟨a9,k9,rfl⟩:=row_shape3 hr8)
      have r2:=hidd (show X.ownsRow y1.heap.size _ _ _ _ _ from hr8)
      have b2:=hidd (show Below y1.heap.size y1 X from ⟨hb8.os,hb8.tape,hb8.output,hb8.size,hb8.block⟩)
      have bw:Below w7.heap.size w7 X:=(b1.out).trans (b2.out.mono b1.out.size)
      refine hK.out _ _ ⟨jcell_after (w:=w7) bw z3,jcell_after (w:=w7) bw z4,jcell_after (w:=w7) bw zj0,jcell_after (w:=w7) bw zj1,jcell_after (w:=w7) bw zj2⟩ (λhHeld=>?_)
      clear hK K hr8 hb8 bw
      have HX:=hidd (show Below w7.heap.size w7 X from b1.out.trans (b2.out.mono b1.out.size))
      have H8:=hidd ((keep_below b2.out).row r1.out (by decide))
      have H9:=hidd (row_low r2.out b1.out.size)
      clear r1 r2 b1 b2
      refine tk 16 ?_
      refine wpAnyH_ready (rs:=[17]) (by kernel_rfl) (by simp) ?_
      refine AllReadyH.cons rfl (λK hK=>?_) AllReadyH.nil
      go_simp
      have bA:=hidd (show Below w7.heap.size w7 (X.alloc (.cells #[.int .i64 j.num,.int .i64 j.til,.slice a8 al7.length k8,.slice a9 fl.length k9] 124)) from HX.out.trans ((below_new _ _).mono HX.out.size))
      refine hK.out _ _ ⟨jcell_after (w:=w7) bA.out z3,jcell_after (w:=w7) bA.out z4,jcell_after (w:=w7) bA.out zj0,jcell_after (w:=w7) bA.out zj1,jcell_after (w:=w7) bA.out zj2⟩ (λhHeld=>?_)
      clear hK K
      refine wpAnyH_ready (rs:=[18]) (by kernel_rfl) (by simp) ?_
      refine AllReadyH.cons rfl (λK hK=>?_) AllReadyH.nil
      refine step_append_tells rfl _ _ 120 rfl w.heap.size _ j0 _ 4 64 underlying120 hj hy0 hy1 hy2 rfl (by decide) (.slice va js.length vc) _ _ rfl ((keep_below bA.out).row HA7.out.out.row (by decide)) ⟨X.heap.size,0,none⟩ 1 1 [.int .i64 j.num,.int .i64 j.til,.slice a8 al7.length k8,.slice a9 fl.length k9] rfl rfl (cells_new X _ _) (by simp[Value.oneCell']) q4.out q5.out (Nat.le_trans HA7.out.b.size bA.out.size) ?_
      rintro v10 w10 hr10 hg10 -
      obtain⟨h11,o11,b10⟩:=jb_job (g:=j.files) HA7.out (Nat.le_refl _) HX.out H8.out H9.out HJT.out.1 HJT.out.2 hr10 hg10
      have K10:=keep_grown HX.out HA7.out.out.row hg10
      obtain⟨a10,k10,rfl⟩:=row_shape3 hr10
      have B4:=K10.bx HA7.out.x4 (by decide)
      have BJ:=K10.bx HJb.out (by decide)
      have HA11:=hidd h11
      have HO11:=hidd o11
      have m10:=b10.c 0 (.slice va js.length vc)
      have f10:=b10.fr 0
      have hS10:w10.cell? ⟨w.heap.size,0,none⟩=some (.slice va js.length vc)/\w10.cell? ⟨w.heap.size+1,0,none⟩=some (.slice a6 al7.length k6)/\w10.cell? ⟨jb0,0,none⟩=some (.int .i64 j.num)/\w10.cell? ⟨jb0,1,none⟩=some (.int .i64 j.til)/\w10.cell? ⟨jb0,2,none⟩=some (.slice ja fl.length jc):=⟨m10,B4.cell (i:=0) rfl,BJ.cell (i:=0) rfl,BJ.cell (i:=1) rfl,BJ.cell (i:=2) rfl⟩
      refine hK.out _ _ hS10 (λhHeld=>?_)
      clear hK K hr10 hg10 h11 o11 b10 B4 BJ K10
      refine wpAnyH_ready (rs:=[19]) (by kernel_rfl) (by simp) ?_
      refine AllReadyH.cons rfl (λK hK=>?_) AllReadyH.nil
      refine nop_ready rfl ?_
      refine hK.out _ _ hS10 (λhHeld=>?_)
      clear hK K
      refine wpAnyH_done (by kernel_rfl) ?_ _
      unfold Owed
      clear hHeld hS10
      go_simp
      have HK11:=only_keeps (B:=(w1.alloc (.cells #[.slice ta zs.length tcap] 195)).heap.size) HO11.out (λk hk=>by
        rcases hk with hk|hk
        · exact⟨_,row_ty HA7.out.out.row hk,by decide,by decide⟩
        · exact⟨120,by rw[hk];exact HA7.out.x3.ty,by decide,by decide⟩) HTv7.out
      refine⟨by trivial,HR.out _ ⟨KeepsFrom.trans HK7.out.1 HK11.1,kpOf_t HK7.out.2 HK11.2,_,_,_,by rw[<-HIds.out];exact HA11.out,?_⟩⟩
      rw[HJs.out,List.map_append]
      simp[jb,ej,HAl7.out]
  case done=>
    rintro D ys W hD rfl ⟨v,js,u,hA,he⟩ hK
    have hjl:js.length<=8:=by
      have h1:=congrArg List.length he
      have h2:=jobsOf_len (((zs.map Prod.fst).attach.map Subtype.val).map (sgOf zs)) []
      simp only[List.length_map,List.length_attach] at h1 h2
      omega
    have he3:js.map Prod.fst=jobsOf s.segs []:=by
      rw[he,List.attach_map_subtype_val,List.map_map,<-HSnd.out]
      congr 1
      refine List.map_congr_left λz hz=>?_
      exact sgOf_mem HNd.out hz
    have hSort:=sort_jobs js v w.heap.size W hA.out.row hA.out.sls (by omega)
    obtain⟨va,vc,rfl⟩:=row_shape3 hA.out.row
    have m0:=hA.x3.c 0 (.slice va js.length vc)
    have hDs:w.heap.size<=D:=by have:=hB0.out.size;have:=HSz.out;omega
    have HA:=hidd hA
    have HE3:=hidd he3
    clear hA he he3
    gi_wp2_with (refine⟨trivial,?_⟩;gi_at_call 151;refine(callsIn_wide.2 hSort).mono ?_;rintro e w2 ⟨rfl,⟨js',hp,hs,hr⟩,hg⟩;obtain⟨b2,hK2,o2,hb2⟩:=jobs_end HA.out hp hr hg hK hDs;have m2:=b2.c 0 (.slice va js.length vc);have HF:=hidd (show (∃v' js2,v'=.slice va js.length vc/\(js2.map Prod.fst).Perm (jobsOf s.segs [])/\js2.Pairwise (λa b=>¬b.1.1<a.1.1)/\JobsOut w.heap.size (s.top n0) (w2.putObj D (.deferred none)) v' js2)/\Below w.heap.size w (w2.putObj D (.deferred none)) from ⟨⟨_,js',rfl,(by rw[<-HE3.out];exact hp.map _),hs,o2⟩,hb2⟩);clear hp hs hr hg o2 hb2 b2)
    refine⟨by simp,.inl ⟨_,_,rfl,run_takeDeferred hK2,?_⟩⟩
    obtain⟨⟨v',js2,rfl,h1,h2,h3⟩,h4⟩:=HF.out
    exact⟨.slice va js.length vc,by simp[results,results108,go_sem],⟨_,js2,rfl,h1,h2,h3⟩,h4⟩
  case stop=>
    rintro D c pre W _ _ h _
    exact h.elim
end
end Go.Proofs.YtgamgomepdfgdaaGreat
