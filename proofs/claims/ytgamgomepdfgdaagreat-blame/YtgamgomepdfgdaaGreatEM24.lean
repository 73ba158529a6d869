import Derived.Test.YtgamgomepdfgdaaGreatEM20
import Derived.Test.YtgamgomepdfgdaaGreatEM23
set_option maxRecDepth 100000
set_option maxHeartbeats 8000000
namespace Go.Proofs.YtgamgomepdfgdaaGreat
open Go.RowKit Go.Proofs.Tryz
theorem info_int:(prog.info? 3).map (λi=>(i.zero,i.size,i.bytes))=some (some (.int .i64 0),1,8):=by kernel_rfl
theorem ChsIs.sl {w:World}{S:Nat->Prop}{cv:Value}{l:List Cg}{cl:List Cw}(h:ChsIs w S cv l cl):∀y∈cl,IsSl y.2:=λy hy=>by
  obtain⟨a,cap,e⟩:=(h.eds y hy).1.form
  exact⟨a,_,cap,e⟩
theorem segIds (p:Nat)(cs:Array Value)(cv:Value)(cl:List Cw)(w:World)(hB:Bx w p 240 cs)(h0:cs[0]? =some cv)(hS:Sl w 273 2 cv cl.length (cl.flatMap cC))(hsl:∀y∈cl,IsSl y.2)(hn:cl.length<=8):
    Calls prog 149 #[ptr p] w λe w'=>(∃v',e=.returned v'/\w'.ownsRow w.heap.size 3 1 v' cl.length (cl.map λy=>cI y.1.1))/\Below w.heap.size w w':=by
  obtain⟨i0,hi0,hz0,hz1,hz2⟩:=info_parts info_int
  obtain⟨ca,ccap,rfl⟩:=hS.form
  have c0:=hB.cell h0
  have HS:Hid (Sl w 273 2 (.slice ca cl.length ccap) cl.length (cl.flatMap cC)):=hS
  have HSL:Hid (∀y∈cl,IsSl y.2):=hsl
  clear hB h0 hS hsl
  unfold ptr
  go_enter func149,ntmps149
  go_wp2_with fail
  clear c0
  go_loopw [3,11] (λlv iv wr=>∃k:Nat,k<=cl.length/\iv=.int .i64 k/\Hid (wr.ownsRow w.heap.size 3 1 lv k ((cl.take k).map λy=>cI y.1.1))/\Hid (Below w.heap.size w wr)) (λ_ i _=>cl.length-(intOf i).toNat)
  case atStart=>exact⟨0,Nat.zero_le _,rfl,World.ownsRow_nil _ _ _ _,Below.refl _ _⟩
  case round=>
    obtain⟨k,hk,rfl,hr,hb⟩:=hrel
    by_cases hlk:k<cl.length
    · obtain⟨g,off,cap,hv,_⟩:=HS.out.addr (by omega)
      cases hv
      obtain⟨ea,en,ec,he⟩:=HSL.out _ (List.getElem_mem hlk)
      have d0:wr.cell? ⟨g,off+k*2,none⟩=some (.int .i64 cl[k].1.1):=jcell_after hb.out (HS.out.cell (j:=k*2) (by rw[show k*2=k*2+0 from rfl,flat_get cC 2 (λ_=>rfl) cl k 0 hlk (by omega)];rfl))
      have d1:wr.cell? ⟨g,off+k*2+1,none⟩=some (.slice ea en ec):=by
        have:=HS.out.cell (j:=k*2+1) (u:=.slice ea en ec) (by rw[flat_get cC 2 (λ_=>rfl) cl k 1 hlk (by omega),<-he];rfl)
        rw[<-Nat.add_assoc] at this
        exact jcell_after hb.out this
      have HW:Hid (((cl.take (k+1)).map λy=>cI y.1.1)=((cl.take k).map λy=>cI y.1.1)++[.int .i64 cl[k].1.1]):=by
        show _=_
        rw[List.take_succ_eq_append_getElem hlk,List.map_append];rfl
      generalize cl[k].1.1=x0 at *
      clear he
      have q1:Hid (k+1<=maxLen):=by show _<=_;unfold maxLen;omega
      have q2:Hid ((k+1)*8<=140737488355328):=by show _<=_;omega
      have q3:Hid (∀o o',w.heap.size<=((wr.alloc o).alloc o').heap.size):=λo o'=>by
        have:=hb.out.size
        show w.heap.size<=_
        simp;omega
      go_wp2_with (at_builtin;refine wpList_append_own_at _ rfl (.tmp 15) (.tmp 18) _ rfl w.heap.size _ i0 _ 1 8 underlying56 hi0 hz0 hz1 hz2 rfl (by decide) u3 _ _ rfl (World.ownsRow.alloc (World.ownsRow.alloc hr.out _) _) ⟨wr.heap.size+1,0,none⟩ 1 1 [.int .i64 x0] rfl rfl (cells_new2 wr _ _ _) (by simp[Value.oneCell']) q1.out q2.out (q3.out _ _) ?_;intro v3 w3 hown3 hg3 hnil3 hloc3)
      refine⟨⟨k+1,hlk,by go_num,?_,?_⟩,by simp[intOf];omega⟩
      · show w3.ownsRow _ _ _ _ _ _
        rw[HW.out]
        exact hown3
      · exact((hb.out.alloc hb.out.size _).alloc (q3' hb.out _) _).grown hg3 (q3.out _ _) (λi hi=>(World.ownsRow.lt hr.out i hi).1)
    · obtain rfl:k=cl.length:=by omega
      have hr':Hid (wr.ownsRow w.heap.size 3 1 u3 cl.length (cl.map λy=>cI y.1.1)):=by
        have:=hr.out
        rwa [List.take_length] at this
      obtain⟨a4,c4,rfl⟩:=row_form hr'.out
      clear hr
      go_wp2_with fail
      go_ret
      exact⟨⟨_,rfl,hr'.out⟩,hb.out⟩
section
open Go.Shelf
attribute [local go_sem] Oper.semAt_some
def Ts.blame0 (s:Ts)(f:Sm)(m:List Sm):Ts:=if 1<f.l.length then s.split f ((f.l.length+1)/2) m else {s with outs:=s.outs++(f.l.take 1).map λx=>(x.1,2),segs:=m}
theorem Sm.renew_new (l:List Cg):(Sm.new l).renew=Sm.new l:=rfl
theorem Ts.blame_eq (s:Ts)(f:Sm)(m:List Sm):s.blame f m={s.blame0 f m with segs:=(s.blame0 f m).segs.map Sm.renew}:=by
  unfold Ts.blame Ts.blame0
  split<;>simp[Ts.split,Sm.renew_new]
theorem tBlame {S:Nat->Prop}{yb mb n0 p:Nat}{c:Cfg}{s:Ts}{f:Sm}{w:World}{q:List Pw}{sb:Nat}{qv ov:Value}{x:Xt}{tl:List Tp}{zs:List (Nat×Sm)}(h:YardZ w S yb mb n0 c s q sb qv ov x tl ((p,f)::zs))(hf:f.l≠[])(hl:zs.length+f.l.length<=8)(ho:s.outs.length<1048576000)(ha:s.acked<=s.outs.length):
    Calls prog 214 #[ptr yb,ptr p] w λe w'=>e=.returned (.tuple #[])/\(∃ov' tv' zs',YardZ w' (Plus S w) yb mb n0 c (s.blame f (zs.map Prod.snd)) q sb qv ov' {x with tv:=tv'} tl zs')/\OnlyT w w' S [201,99,210,240]:=by
  rw[Ts.blame_eq]
  obtain⟨y,l,hyl⟩:∃y l,f.l=y::l:=by
    cases hq:f.l with
    |nil=>exact absurd hq hf
    |cons y l=>exact⟨y,l,rfl⟩
  obtain⟨cv,jv,cl,hseg⟩:=h.rest.train.segs (p,f) (by simp)
  have hcl:cl.length=f.l.length:=by rw[<-hseg.chs.fst,List.length_map]
  have hpos:0<f.l.length:=by rw[hyl];simp
  obtain⟨g,off,cap,rfl,hnc,hcm⟩:=hseg.chs.row.addr (by omega)
  have c0:w.cell? ⟨p,0,none⟩=some (.slice (some ⟨g,off,none⟩) f.l.length cap):=by rw[<-hcl];exact hseg.box.cell (i:=0) rfl
  have d0:w.cell? ⟨g,off,none⟩=some (.int .i64 y.1):=by
    have hfst:=hseg.chs.fst
    cases cl with
    |nil=>simp at hcl;omega
    |cons a b=>
      have:a.1=y:=by
        rw[show (p,f).2.l=y::l from hyl,List.map_cons,List.cons.injEq] at hfst
        exact hfst.1
      rw[<-this]
      exact hseg.chs.row.cell (j:=0) rfl
  rw[hcl] at hnc
  have hE:=tEndZ y.1 2 h ho ha
  have hS:1<f.l.length->_:=λhh=>tSplit (k:=(f.l.length+1)/2) h (by omega) (by omega) (by omega) (by omega)
  have HB0:Hid (s.blame0 f (zs.map Prod.snd)=if 1<f.l.length then s.split f ((f.l.length+1)/2) (zs.map Prod.snd) else {s with outs:=s.outs++[(y.1,2)],segs:=zs.map Prod.snd}):=by
    show _=_
    unfold Ts.blame0
    rw[hyl];rfl
  unfold maxLen at hcm
  clear h hseg hf hyl hcl
  generalize y.1=id at *
  generalize f.l.length=fl at *
  unfold ptr
  refine(callsIn_wide (n:=3)).1 ?_
  refine callsIn_of_wp_marks func214 rfl trivial ?_ rfl
  simp only[ntmps214,List.size_toArray,List.length_cons,List.length_nil,Nat.reduceAdd,Nat.reduceSub,Array.replicate_succ,Array.replicate_zero,List.push_toArray,List.append_toArray,List.nil_append,List.cons_append]
  gi_upto_if 12 with fail
  gi_cut [] from 12 (λwz=>Hid (∃ov' tv' zs',YardZ wz (Plus S w) yb mb n0 c (s.blame0 f (zs.map Prod.snd)) q sb qv ov' {x with tv:=tv'} tl zs'/\zs'.length<=8/\OnlyT w wz S [201,99,210]))
  case first=>
    by_cases hh:1<fl
    · have hS':=hS hh
      have q1:(fl:Int)>1:=by omega
      have q2:((fl:Int)+1)/2=(((fl+1)/2:Nat):Int):=by omega
      rw[<-q2] at hS'
      clear hS hE q2
      gi_wp2_with fail
      generalize ((fl:Int)+1)/2=kk at *
      refine⟨trivial,?_⟩
      refine(callsIn_wide.2 hS').mono ?_
      rintro e w' ⟨rfl,⟨tv',zs',hY',hz'⟩,hO'⟩
      have HR:Hid (∃ov' tv' zs',YardZ w' (Plus S w) yb mb n0 c (s.blame0 f (zs.map Prod.snd)) q sb qv ov' {x with tv:=tv'} tl zs'/\zs'.length<=8/\OnlyT w w' S [201,99,210]):=by
        refine⟨ov,tv',zs',?_,by omega,OnlyT.mono hO' (λ_ h=>h) (by decide)⟩
        rw[HB0.out,if_pos hh]
        exact hY'
      clear hY' hO' hS'
      gi_wp2_with fail
      gi_meet
      case rel=>exact HR
    · have q1:¬(fl:Int)>1:=by omega
      clear hS
      gi_wp2_with (refine⟨trivial,?_⟩;gi_at_call 170;refine(callsIn_wide.2 hE).mono ?_;rintro e w1 ⟨rfl,⟨ov1,hY1⟩,hO1⟩)
      have hD:=tDropZ hY1
      have HO1:Hid (OnlyT w w1 S [201,99]):=hO1
      clear hE hY1 hO1 c0 d0
      gi_wp2_with (refine⟨trivial,?_⟩;gi_at_call 244;refine(callsIn_wide.2 hD).mono ?_;rintro e w2 ⟨rfl,⟨tv2,hY2⟩,hO2⟩)
      have HR:Hid (∃ov' tv' zs',YardZ w2 (Plus S w) yb mb n0 c (s.blame0 f (zs.map Prod.snd)) q sb qv ov' {x with tv:=tv'} tl zs'/\zs'.length<=8/\OnlyT w w2 S [201,99,210]):=by
        refine⟨ov1,tv2,zs,?_,by omega,OnlyT.mono (OnlyT.trans HO1.out hO2 λk hk=>hk) (λ_ h=>h) (by decide)⟩
        rw[HB0.out,if_neg hh]
        exact hY2
      clear hY2 hO2 hD
      gi_wp2_with fail
      gi_meet
      case rel=>exact HR
  case rest=>
    obtain⟨ov1,tv1,zs1,HY1',hl1,HO1'⟩:=hcut.out
    obtain⟨ta,tcap,htv⟩:=HY1'.rest.train.row.form
    generalize hs1:s.blame0 f (zs.map Prod.snd)=s1 at HY1'
    have Hs1:Hid (s.blame0 f (zs.map Prod.snd)=s1):=hs1
    clear hs1
    have c11:wc.cell? ⟨yb,11,none⟩=some (.slice ta zs1.length tcap):=by rw[<-htv];exact HY1'.is.box.cell (i:=11) rfl
    have hpl:(zs1.map Prod.fst).length=zs1.length:=List.length_map _
    have hrow:Sl wc 210 1 (.slice ta zs1.length tcap) zs1.length ((zs1.map Prod.fst).map ptr):=by
      have:=HY1'.rest.train.row
      rw[List.map_map,<-htv]
      exact this
    have HRow:Hid (Sl wc 210 1 (.slice ta zs1.length tcap) zs1.length ((zs1.map Prod.fst).map ptr)):=hrow
    have hB0:Hid (Below wc.heap.size wc (wc.alloc (.cells #[.slice ta zs1.length tcap] 195))):=below_new _ _
    have HY1:Hid (YardZ wc (Plus S w) yb mb n0 c s1 q sb qv ov1 {x with tv:=tv1} tl zs1):=HY1'
    have HO1:Hid (OnlyT w wc S [201,99,210]):=HO1'
    clear hrow HY1' HO1' htv hE hS HB0 hcut c0 d0
    gi_wp2_with (refine⟨trivial,?_⟩;gi_at_call 147;refine(callsIn_wide.2 (lineAll yb ta zs1.length tcap wc c11)).mono ?_;rintro e w' ⟨rfl,rfl⟩)
    refine wpIn_rangeFunc_ownG (α:=Pt (zs1.map Prod.fst)) (n:=3) (F:=Fence.wide) rfl (by decide) (gf:=223) (lb:=#[.pointer (some ⟨wc.heap.size,0,none⟩)]) rfl trivial (enters_of func223 (by kernel_rfl) rfl)
      (sv_stops Fence.wide 2 trivial rfl (by decide) wc.heap.size (.slice ta zs1.length tcap) (zs1.map Prod.fst) (by rw[hpl];omega) (wc.alloc (.cells #[.slice ta zs1.length tcap] 195)) (by simp) (by simp) (by rw[hpl];exact HRow.out.mk _)) kpOf_t (kpOf_b λg hg=>Nat.lt_of_lt_of_le (HRow.out.lt hg) hB0.out.size) (Below.refl _ _) (λ_=>rfl)
      (λpre W=>EachIs wc W (Plus S w) (s1.top n0) zs1 Sm.renew (pre.map Subtype.val)) (λ_ _ _=>False) (EachIs.own hB0.out.size) (λ_ _ _ _ _ hs _ _=>hs) (EachIs.start HY1.out.rest.train.segs hB0.out)
      (λy=>{tmps:=#[.pointer (some ⟨yb,0,none⟩),.pointer (some ⟨p,0,none⟩),undef,undef,.int .i64 fl,.pointer (some ⟨y.1,0,none⟩),.pointer (some ⟨p,0,none⟩),.pointer (some ⟨p,0,none⟩),.pointer (some ⟨p,0,none⟩),.slice (some ⟨g,off,none⟩) fl cap,.int .i64 fl,.int .i64 fl,u12,u13,u14,u15,u16,u17,u18,u19,u20,u21,u22,u23,u24,u25,u26,u27,u28,u29,u30,u31,.pointer (some ⟨yb,0,none⟩),.pointer (some ⟨yb,0,none⟩),.pointer (some ⟨yb,11,none⟩),.func (.func 223) #[] #[.pointer (some ⟨wc.heap.size,0,none⟩)],.pointer (some ⟨y.1,0,none⟩),u37,u38],defers:=[]}) ?assign ?body ?done ?stop
    case assign=>
      intro l y W K hK
      unfold ptr
      gi_wp2
      exact hK
    case body=>
      rintro l pre ⟨p,hp⟩ W hE _
      obtain⟨⟨p',y⟩,hz,rfl⟩:=List.mem_map.1 hp
      obtain⟨cv,jv,cl,hseg⟩:=hE.2 (p',y) hz
      have hff:(if p'∈pre.map Subtype.val then y.renew else y).renew=y.renew:=by split<;>rfl
      have HE:Hid (EachIs wc W (Plus S w) (s1.top n0) zs1 Sm.renew (pre.map Subtype.val)):=hE
      simp only at hseg
      generalize (if p'∈pre.map Subtype.val then y.renew else y)=y' at *
      have HS:Hid (SegIs W (Plus S w) (s1.top n0) p' y' cv jv cl):=hseg
      obtain⟨ca,cm,cc,rfl⟩:=chg_form hseg.chs.row
      clear hE hseg
      gi_wp2_with (refine⟨trivial,?_⟩;gi_at_call 246;refine(calls_round _ _ (segRenew p' y'.fails y'.by_ ca cm cc jv W HS.out.box)).mono ?_;rintro e w' ⟨rfl,HB',HO'⟩)
      have hT:=HS.out.box.ty
      refine⟨keeps_only HO' hT (by decide),kp_only HO' hT (HE.out.1.sl HRow.out (by decide)),?_⟩
      have O:OnlyT W w' (Plus S w) [240]:=OnlyT.mk HO' λk _ e=>by
        subst e
        exact⟨HS.out.own,240,by simp,hT⟩
      have:=HE.out.step HY1.out.rest.train.nd hz HO' (by
        rw[<-hff]
        exact⟨_,.pointer none,cl,HB',HS.out.chs.keptT O.k (λ_ h=>h) (by decide) (by decide),rfl,HS.out.own⟩)
      simpa using this
    case done=>
      rintro D ys W hD rfl hE hK
      gi_wp2
      refine⟨by simp,.inl ⟨_,_,rfl,run_takeDeferred hK,?_⟩⟩
      have hE2:=(EachIs.own (ps:=zs1.map Prod.fst) (S:=Plus S w) (N:=s1.top n0) (zs:=zs1) (f:=Sm.renew) (w:=wc) hB0.out.size).putObj (.deferred none) hE hD hK rfl
      rw[List.attach_map_subtype_val] at hE2
      obtain rfl:=Hs1.out
      exact⟨_,results_none rfl _ _ _,rfl,⟨_,_,_,hE2.done HY1.out⟩,OnlyT.mono (OnlyT.trans HO1.out hE2.1 λk hk=>hk) (λ_ h=>h) (by decide)⟩
    case stop=>
      rintro D c pre W _ _ h _
      exact h.elim
end
section
open Go.Shelf
attribute [local go_sem] Oper.semAt_some
theorem results_cell2 {fn:Func}{p u ty tu:Nat}(h:fn.results=#[.cell p ty,.cell u tu])(tmps:Array Value)(P:Program)(w:World):
    (results fn tmps).run P w=((asAddr (tmps.getD p undef)).run P w).andThen λa w₁=>((loadVar ty a).run P w₁).andThen λv w₂=>((asAddr (tmps.getD u undef)).run P w₂).andThen λb w₃=>((loadVar tu b).run P w₃).andThen λv' w₄=>.ok (.tuple #[v,v']) w₄:=by
  simp only[results,h]
  simp
theorem nodup_key {z z':Nat×Sm}:∀{l:List (Nat×Sm)},(l.map Prod.fst).Nodup->z∈l->z'∈l->z.1=z'.1->z=z'
  |[],_,h,_,_=>by cases h
  |a::l,hn,h1,h2,e=>by
    rw[List.map_cons,List.nodup_cons] at hn
    rcases List.mem_cons.1 h1 with rfl|h3
    · rcases List.mem_cons.1 h2 with h4|h4
      · exact h4.symm
      · exact absurd (List.mem_map.2 ⟨_,h4,e.symm⟩) hn.1
    · rcases List.mem_cons.1 h2 with rfl|h4
      · exact absurd (List.mem_map.2 ⟨_,h3,e⟩) hn.1
      · exact nodup_key hn.2 h3 h4 e
theorem tested_res {W:World}{b d:Nat}{v:Value}{t:Bool}(h4:Bx W b 210 #[v])(h5:Bx W d 4 #[.bool t])(tmps:Array Value)(e4:tmps.getD 4 undef=.pointer (some ⟨b,0,none⟩))(e5:tmps.getD 5 undef=.pointer (some ⟨d,0,none⟩)):
    (results Tryz.f118 tmps).run prog W=.ok (.tuple #[v,.bool t]) W:=by
  have x4:=h4.cell (i:=0) rfl
  have x5:=h5.cell (i:=0) rfl
  rw[results_cell2 (p:=4) (u:=5) (ty:=210) (tu:=4) rfl,e4,e5]
  simp[x4,x5,go_sem,loadVar]
def Sm.runsI (x:Sm)(num:Int):Bool:=match x.job with|some j=>(j.num:Int)==num|none=>false
theorem Sm.runsI_nat (x:Sm)(n:Nat):x.runsI n=x.runs n:=by
  unfold Sm.runsI Sm.runs
  cases x.job with
  |none=>rfl
  |some j=>
    show ((j.num:Int)==(n:Int))=(j.num==n)
    rw[Bool.eq_iff_iff,beq_iff_eq,beq_iff_eq];omega
def TestIs (w W:World)(zs:List (Nat×Sm))(num:Int)(c:Code):Prop:=c=.ret/\∃z∈zs,z.2.runsI num=true/\Below w.heap.size w W/\Bx W (w.heap.size+1) 210 #[ptr z.1]/\Bx W (w.heap.size+1+1) 4 #[.bool true]
theorem bx_own {W W':World}{p:Nat}{t:TypeId}{cs:Array Value}{row:Option Nat}{B:Nat}(h:Bx W p t cs)(hg:W.grownBy W' row)(hr:∀r,row=some r->B<=r)(hp:p<B):Bx W' p t cs:=(hg.block p h.lt λe=>by have:=hr p e.symm;omega).trans h
theorem below_own {w W W':World}{N:Nat}{row:Option Nat}{B:Nat}(h:Below N w W)(hN:N<=w.heap.size)(hg:W.grownBy W' row)(hr:∀r,row=some r->B<=r)(hB:N<=B):Below N w W':=
  ⟨hg.os.trans h.os,hg.tape.trans h.tape,hg.output.trans h.output,Nat.le_trans h.size hg.size,λk hk=>(hg.block k (by have:=h.size;omega) λe=>by have:=hr k e.symm;omega).trans (h.block k hk)⟩
theorem TestIs.own {w:World}{zs:List (Nat×Sm)}{num:Int}{B:Nat}{α:Type}(hB:w.heap.size+3<=B)(c:Code):OwnFrom B (λ(_:List α) W=>TestIs w W zs num c):=λs W W' row hs hg hr=>by
  obtain⟨rfl,z,hz,hzr,hb,h4,h5⟩:=hs
  exact⟨rfl,z,hz,hzr,below_own hb (Nat.le_refl _) hg (λr e=>(hr r e).1) (by omega),bx_own h4 hg (λr e=>(hr r e).1) (by omega),bx_own h5 hg (λr e=>(hr r e).1) (by omega)⟩
def NotYet (w1 W:World)(zs:List (Nat×Sm))(num:Int)(pre:List Nat):Prop:=Below w1.heap.size w1 W/\∀z∈zs,z.1∈pre->z.2.runsI num=false
theorem NotYet.own {w1:World}{zs:List (Nat×Sm)}{num:Int}{B:Nat}{ps:List Nat}(hB:w1.heap.size<=B):OwnFrom B (λ(pre:List (Pt ps)) W=>NotYet w1 W zs num (pre.map Subtype.val)):=λ_ _ _ _ hs hg hr=>
  ⟨below_own hs.1 (Nat.le_refl _) hg (λr e=>(hr r e).1) hB,hs.2⟩
theorem tTestedI {S:Nat->Prop}{yb mb n0:Nat}(num:Int){c:Cfg}{s:Ts}{w:World}{q:List Pw}{sb:Nat}{qv ov:Value}{x:Xt}{tl:List Tp}{zs:List (Nat×Sm)}(h:YardZ w S yb mb n0 c s q sb qv ov x tl zs)(hl:zs.length<=8):
    Calls prog 118 #[ptr yb,.int .i64 num] w λe w'=>Below w.heap.size w w'/\((∃z∈zs,z.2.runsI num=true/\e=.returned (.tuple #[ptr z.1,.bool true]))\/((∀z∈zs,z.2.runsI num=false)/\e=.returned (.tuple #[.pointer none,.bool false]))):=by
  obtain⟨ta,tcap,htv⟩:=h.rest.train.row.form
  have hpl:(zs.map Prod.fst).length=zs.length:=List.length_map _
  have hrow:Sl w 210 1 (.slice ta zs.length tcap) zs.length ((zs.map Prod.fst).map ptr):=by
    have:=h.rest.train.row
    rw[List.map_map,<-htv]
    exact this
  have c11:w.cell? ⟨yb,11,none⟩=some (.slice ta zs.length tcap):=by rw[<-htv];exact h.is.box.cell (i:=11) rfl
  have hyb:=h.is.box.lt
  have HY:Hid (YardZ w S yb mb n0 c s q sb qv ov x tl zs):=h
  have HRow:Hid (Sl w 210 1 (.slice ta zs.length tcap) zs.length ((zs.map Prod.fst).map ptr)):=hrow
  have HB1:Hid (Below w.heap.size w (((w.alloc (.cells #[.int .i64 num] 3)).alloc (.cells #[.pointer none] 210)).alloc (.cells #[.bool false] 4))):=((below_new w _).trans ((below_new _ _).mono (by simp))).trans ((below_new _ _).mono (by simp;omega))
  have HX3:Hid (Bx (((w.alloc (.cells #[.int .i64 num] 3)).alloc (.cells #[.pointer none] 210)).alloc (.cells #[.bool false] 4)) w.heap.size 3 #[.int .i64 num]):=((Bx.new _ _ _).mk _).mk _
  have HX4:Hid (Bx (((w.alloc (.cells #[.int .i64 num] 3)).alloc (.cells #[.pointer none] 210)).alloc (.cells #[.bool false] 4)) (w.heap.size+1) 210 #[.pointer none]):=by
    have:=(Bx.new (w.alloc (.cells #[.int .i64 num] 3)) #[.pointer none] 210).mk (.cells #[.bool false] 4)
    rwa [World.size_alloc] at this
  have HX5:Hid (Bx (((w.alloc (.cells #[.int .i64 num] 3)).alloc (.cells #[.pointer none] 210)).alloc (.cells #[.bool false] 4)) (w.heap.size+1+1) 4 #[.bool false]):=by
    have:=Bx.new ((w.alloc (.cells #[.int .i64 num] 3)).alloc (.cells #[.pointer none] 210)) #[.bool false] 4
    rwa [World.size_alloc,World.size_alloc] at this
  have HSz:Hid ((((w.alloc (.cells #[.int .i64 num] 3)).alloc (.cells #[.pointer none] 210)).alloc (.cells #[.bool false] 4)).heap.size=w.heap.size+3):=by
    show _=_
    simp
  clear h htv hrow
  unfold ptr
  refine(callsIn_wide (n:=3)).1 ?_
  refine callsIn_of_wp_marks func118 rfl trivial ?_ rfl
  simp only[ntmps118,List.size_toArray,List.length_cons,List.length_nil,Nat.reduceAdd,Nat.reduceSub,Array.replicate_succ,Array.replicate_zero,List.push_toArray,List.append_toArray,List.nil_append,List.cons_append]
  gi_upto_region 1 with fail
  generalize ((w.alloc (.cells #[.int .i64 num] 3)).alloc (.cells #[.pointer none] 210)).alloc (.cells #[.bool false] 4)=w1 at *
  have c12:w1.cell? ⟨yb,11,none⟩=some (.slice ta zs.length tcap):=(HB1.out.cell (p:=⟨yb,11,none⟩) hyb).trans c11
  have HR1:Hid (Sl w1 210 1 (.slice ta zs.length tcap) zs.length ((zs.map Prod.fst).map ptr)):=HRow.out.later HB1.out
  have hB0:Hid (Below w1.heap.size w1 (w1.alloc (.cells #[.slice ta zs.length tcap] 195))):=below_new _ _
  clear c11
  gi_wp2_with (refine⟨trivial,?_⟩;gi_at_call 147;refine(callsIn_wide.2 (lineAll yb ta zs.length tcap w1 c12)).mono ?_;rintro e w' ⟨rfl,rfl⟩)
  refine wpIn_rangeFunc_ownG (α:=Pt (zs.map Prod.fst)) (n:=3) (F:=Fence.wide) rfl (by decide) (gf:=223) (lb:=#[.pointer (some ⟨w1.heap.size,0,none⟩)]) rfl trivial (enters_of func223 (by kernel_rfl) rfl)
    (sv_stops Fence.wide 2 trivial rfl (by decide) w1.heap.size (.slice ta zs.length tcap) (zs.map Prod.fst) (by rw[hpl];omega) (w1.alloc (.cells #[.slice ta zs.length tcap] 195)) (by simp) (by simp) (by rw[hpl];exact HR1.out.mk _)) kpOf_t (kpOf_b λg hg=>Nat.lt_of_lt_of_le (HR1.out.lt hg) hB0.out.size) (Below.refl _ _) (λ_=>rfl)
    (λpre W=>NotYet w1 W zs num (pre.map Subtype.val)) (λc _ W=>TestIs w W zs num c) (NotYet.own hB0.out.size) (λc=>TestIs.own (by have:=HSz.out;have:=hB0.out.size;omega) c) ⟨hB0.out,λ_ _ h=>by simp at h⟩
    (λy=>{tmps:=#[.pointer (some ⟨yb,0,none⟩),.int .i64 num,undef,.pointer (some ⟨w.heap.size,0,none⟩),.pointer (some ⟨w.heap.size+1,0,none⟩),.pointer (some ⟨w.heap.size+1+1,0,none⟩),.pointer (some ⟨y.1,0,none⟩),.pointer (some ⟨yb,0,none⟩),.pointer (some ⟨yb,0,none⟩),.pointer (some ⟨yb,11,none⟩),.func (.func 223) #[] #[.pointer (some ⟨w1.heap.size,0,none⟩)],.pointer (some ⟨y.1,0,none⟩),undef,undef,undef,undef,undef,undef,undef,undef,undef,undef,undef,undef,undef,undef,undef,undef,undef],defers:=[]}) ?assign ?body ?done ?stop
  case assign=>
    intro l y W K hK
    unfold ptr
    gi_wp2
    exact hK
  case body=>
    rintro l pre ⟨p,hp⟩ W hE _
    obtain⟨⟨p',y⟩,hz,rfl⟩:=List.mem_map.1 hp
    obtain⟨cv,jv,cl,hseg⟩:=HY.out.rest.train.segs (p',y) hz
    have hW:Below w.heap.size w W:=HB1.out.trans (hE.1.mono HB1.out.size)
    have hbx:Bx W p' 240 (segCells cv y.fails y.by_ jv):=(hW.block _ hseg.box.lt).trans hseg.box
    have c3:=hbx.c 3 jv
    have hs1:w.heap.size<w1.heap.size:=by have:=HSz.out;omega
    have hb3:Bx W w.heap.size 3 #[.int .i64 num]:=(hE.1.block _ HX3.out.lt).trans HX3.out
    have hx3:=hb3.cell (i:=0) rfl
    have HX4':Hid (Bx W (w.heap.size+1) 210 #[.pointer none]):=(hE.1.block _ HX4.out.lt).trans HX4.out
    have HX5':Hid (Bx W (w.heap.size+1+1) 4 #[.bool false]):=(hE.1.block _ HX5.out.lt).trans HX5.out
    have HE:Hid (NotYet w1 W zs num (pre.map Subtype.val)):=hE
    have HW:Hid (Below w.heap.size w W):=hW
    have HN:Hid (y.runsI num=false->∀n,NotYet w1 (W.drewN n) zs num ((pre++[(⟨p',hp⟩:Pt (zs.map Prod.fst))]).map Subtype.val)):=λhr n=>by
      refine⟨⟨HE.out.1.os,HE.out.1.tape,HE.out.1.output,HE.out.1.size,HE.out.1.block⟩,λz hz' hm=>?_⟩
      rw[List.map_append,List.mem_append] at hm
      rcases hm with hm|hm
      · exact HE.out.2 z hz' hm
      · have e:z.1=p':=by simpa using hm
        have:=nodup_key HY.out.rest.train.nd hz' hz e
        subst this
        exact hr
    clear hE hW
    cases ej:y.job with
    |none=>
      have ejv:jv=.pointer none:=by have:=hseg.job;rw[ej] at this;exact this
      subst ejv
      have Hs:=HN.out (by unfold Sm.runsI;rw[ej])
      clear hseg hbx
      refine wpIn_block (wpIn_seq (wpIn_round_quiet rfl (by kernel_rfl) rfl ?_))
      repeat (first|go_big_quiet_step (fail)|quiet_step (fail))
      refine wpQuiet_nil ?_
      rintro _ ⟨nq,rfl⟩
      show Code.wpIn _ _ _ _ _ _ _
      gi_wp2
      exact⟨keeps_drew _ _,λ_ _=>rfl,Hs nq⟩
    |some j=>
      obtain⟨jb,jt,jfl,rfl,hJ,-,-,-,-,-⟩:JobIs w S (s.top n0) jv (some j):=ej▸hseg.job
      have hJ':Bx W jb 242 #[.int .i64 j.num,.int .i64 j.til,jt]:=(HW.out.block _ hJ.lt).trans hJ
      have j0:=hJ'.cell (i:=0) rfl
      unfold ptr at c3
      clear hseg hbx
      by_cases hdue:(j.num:Int)=num
      · subst hdue
        have hd:decide ((j.num:Int)=(j.num:Int))=true:=by simp
        have f4:=HX4'.out.fr 0
        have f5:=HX5'.out.fr 0
        have x4:=HX4'.out.cell (i:=0) rfl
        have x5:=HX5'.out.cell (i:=0) rfl
        refine wpIn_block (wpIn_seq (wpIn_round_quiet rfl (by kernel_rfl) rfl ?_))
        repeat (first|go_big_quiet_step (fail)|quiet_step (fail))
        refine wpQuiet_nil ?_
        rintro _ ⟨nq,rfl⟩
        show Code.wpIn _ _ _ _ _ _ _
        gi_wp2
        have hg:Only W (((W.drewN nq).setCell ⟨w.heap.size+1,0,none⟩ (.pointer (some ⟨p',0,none⟩))).setCell ⟨w.heap.size+1+1,0,none⟩ (.bool true)) (λk=>w.heap.size<=k/\k<w1.heap.size):=by
          have:=HSz.out
          exact Only.set (Only.set (⟨rfl,rfl,rfl,Nat.le_refl _,λ_ _ _=>rfl⟩:Only W (W.drewN nq) _) (.inl ⟨Nat.le_succ _,by show w.heap.size+1<_;omega⟩)) (.inl ⟨by show _<=w.heap.size+1+1;omega,by show w.heap.size+1+1<_;omega⟩)
        have h4:Bx (((W.drewN nq).setCell ⟨w.heap.size+1,0,none⟩ (.pointer (some ⟨p',0,none⟩))).setCell ⟨w.heap.size+1+1,0,none⟩ (.bool true)) (w.heap.size+1) 210 #[ptr p']:=by
          have e:Bx (W.drewN nq) (w.heap.size+1) 210 #[.pointer none]:=HX4'.out
          exact Bx.other (Bx.set e 0 (ptr p')) (by omega) 0 _
        have h5:Bx (((W.drewN nq).setCell ⟨w.heap.size+1,0,none⟩ (.pointer (some ⟨p',0,none⟩))).setCell ⟨w.heap.size+1+1,0,none⟩ (.bool true)) (w.heap.size+1+1) 4 #[.bool true]:=by
          have e:Bx (W.drewN nq) (w.heap.size+1+1) 4 #[.bool false]:=HX5'.out
          exact Bx.set (Bx.other e (by omega) 0 _) 0 (.bool true)
        refine⟨⟨hg.size,λk o hB hk ho=>(hg.block k (Array.getElem?_eq_some_iff.1 hk).1 λe=>?_).trans hk⟩,rfl,(p',y),hz,by unfold Sm.runsI;rw[ej];simp,?_,h4,h5⟩
        · have:=hB0.out.size
          have:=e.2
          omega
        · have hb:Below w.heap.size w W:=HW.out
          exact⟨hg.os.trans hb.os,hg.tape.trans hb.tape,hg.output.trans hb.output,Nat.le_trans hb.size hg.size,λk hk=>(hg.block k (by have:=hb.size;omega) λe=>by have:=e.1;omega).trans (hb.block k hk)⟩
      · have hd:decide ((j.num:Int)=num)=false:=by rw[decide_eq_false_iff_not];omega
        have Hs:=HN.out (by unfold Sm.runsI;rw[ej];simpa using hdue)
        refine wpIn_block (wpIn_seq (wpIn_round_quiet rfl (by kernel_rfl) rfl ?_))
        repeat (first|go_big_quiet_step (fail)|quiet_step (fail))
        refine wpQuiet_nil ?_
        rintro _ ⟨nq,rfl⟩
        show Code.wpIn _ _ _ _ _ _ _
        gi_wp2
        exact⟨keeps_drew _ _,λ_ _=>rfl,Hs nq⟩
  case done=>
    rintro D ys W hD rfl hE hK
    have HX4':Hid (Bx W (w.heap.size+1) 210 #[.pointer none]):=(hE.1.block _ HX4.out.lt).trans HX4.out
    have HX5':Hid (Bx W (w.heap.size+1+1) 4 #[.bool false]):=(hE.1.block _ HX5.out.lt).trans HX5.out
    have f4:=HX4'.out.fr 0
    have f5:=HX5'.out.fr 0
    have x4:=HX4'.out.cell (i:=0) rfl
    have x5:=HX5'.out.cell (i:=0) rfl
    have HE:Hid (NotYet w1 W zs num ((zs.map Prod.fst).attach.map Subtype.val)):=hE
    clear hE
    gi_wp2
    have hDs:w1.heap.size<=D:=by
      have:=hB0.out.size
      omega
    have hSz:=HSz.out
    have hE:=HE.out
    have hg:Only W ((W.setCell ⟨w.heap.size+1,0,none⟩ (.pointer none)).setCell ⟨w.heap.size+1+1,0,none⟩ (.bool false)) (λk=>w.heap.size<=k/\k<w1.heap.size):=
      Only.set (Only.set (Only.refl W _) (.inl ⟨Nat.le_succ _,by show w.heap.size+1<_;omega⟩)) (.inl ⟨by show _<=w.heap.size+1+1;omega,by show w.heap.size+1+1<_;omega⟩)
    have h4:Bx ((W.setCell ⟨w.heap.size+1,0,none⟩ (.pointer none)).setCell ⟨w.heap.size+1+1,0,none⟩ (.bool false)) (w.heap.size+1) 210 #[.pointer none]:=Bx.other (Bx.set HX4'.out 0 (.pointer none)) (by omega) 0 _
    have h5:Bx ((W.setCell ⟨w.heap.size+1,0,none⟩ (.pointer none)).setCell ⟨w.heap.size+1+1,0,none⟩ (.bool false)) (w.heap.size+1+1) 4 #[.bool false]:=Bx.set (Bx.other HX5'.out (by omega) 0 _) 0 (.bool false)
    have hDW:D<W.heap.size:=(Array.getElem?_eq_some_iff.1 hK).1
    have hK2:=(hg.block D hDW λe=>by have:=e.2;omega).trans hK
    have hb:Below w.heap.size w ((W.setCell ⟨w.heap.size+1,0,none⟩ (.pointer none)).setCell ⟨w.heap.size+1+1,0,none⟩ (.bool false)):=by
      have hb:=HB1.out.trans (hE.1.mono HB1.out.size)
      exact⟨hg.os.trans hb.os,hg.tape.trans hb.tape,hg.output.trans hb.output,Nat.le_trans hb.size hg.size,λk hk=>(hg.block k (by have:=hb.size;omega) λe=>by have:=e.1;omega).trans (hb.block k hk)⟩
    generalize (W.setCell ⟨w.heap.size+1,0,none⟩ (.pointer none)).setCell ⟨w.heap.size+1+1,0,none⟩ (.bool false)=W2 at *
    refine⟨by simp,.inl ⟨_,_,rfl,run_takeDeferred hK2,?_⟩⟩
    have g4:Bx (W2.putObj D (.deferred none)) (w.heap.size+1) 210 #[.pointer none]:=bx_own h4 (grownBy_putObj' W2 D _) (B:=D) (λr e=>by cases e;omega) (by omega)
    have g5:Bx (W2.putObj D (.deferred none)) (w.heap.size+1+1) 4 #[.bool false]:=bx_own h5 (grownBy_putObj' W2 D _) (B:=D) (λr e=>by cases e;omega) (by omega)
    exact⟨_,tested_res g4 g5 _ rfl rfl,below_own hb (Nat.le_refl _) (grownBy_putObj' W2 D _) (B:=D) (λr e=>by cases e;omega) (by omega),.inr ⟨λz hz=>hE.2 z hz (by rw[List.attach_map_subtype_val];exact List.mem_map_of_mem hz),rfl⟩⟩
  case stop=>
    rintro D c pre W hD _ h hK
    obtain⟨rfl,z,hz,hzr,hb,h4,h5⟩:=h
    have hDs:w.heap.size+3<=D:=by
      have:=HSz.out
      have:=hB0.out.size
      omega
    gi_wp2
    refine⟨by simp,.inl ⟨_,_,rfl,run_takeDeferred hK,?_⟩⟩
    have g4:Bx (W.putObj D (.deferred none)) (w.heap.size+1) 210 #[ptr z.1]:=bx_own h4 (grownBy_putObj' W D _) (B:=D) (λr e=>by cases e;omega) (by omega)
    have g5:Bx (W.putObj D (.deferred none)) (w.heap.size+1+1) 4 #[.bool true]:=bx_own h5 (grownBy_putObj' W D _) (B:=D) (λr e=>by cases e;omega) (by omega)
    exact⟨_,tested_res g4 g5 _ rfl rfl,below_own hb (Nat.le_refl _) (grownBy_putObj' W D _) (B:=D) (λr e=>by cases e;omega) (by omega),.inl ⟨z,hz,hzr,rfl⟩⟩
theorem tTested {S:Nat->Prop}{yb mb n0:Nat}(num:Nat){c:Cfg}{s:Ts}{w:World}{q:List Pw}{sb:Nat}{qv ov:Value}{x:Xt}{tl:List Tp}{zs:List (Nat×Sm)}(h:YardZ w S yb mb n0 c s q sb qv ov x tl zs)(hl:zs.length<=8):
    Calls prog 118 #[ptr yb,.int .i64 num] w λe w'=>Below w.heap.size w w'/\((∃z∈zs,z.2.runs num=true/\e=.returned (.tuple #[ptr z.1,.bool true]))\/((∀z∈zs,z.2.runs num=false)/\e=.returned (.tuple #[.pointer none,.bool false]))):=by
  have:=tTestedI (num:Int) h hl
  simp only[Sm.runsI_nat] at this
  exact this
end
theorem info_tip:(prog.info? 110).map (λi=>(i.zero,i.size,i.bytes))=some (some (.agg #[.int .i64 0,.slice none 0 0]),2,32):=by kernel_rfl
theorem set7 (c:Cfg)(x:Xt)(b t:Nat)(qv:Value)(sb n:Nat)(ov:Value)(bm n':Nat):(yardCells c x b t qv sb n ov).setIfInBounds 7 (.map (some bm))=yardCells c {x with tip:=bm,n:=n'} b t qv sb n ov:=rfl
theorem set8 (c:Cfg)(x:Xt)(b t:Nat)(qv:Value)(sb n:Nat)(ov mv:Value):(yardCells c x b t qv sb n ov).setIfInBounds 8 mv=yardCells c {x with mv:=mv} b t qv sb n ov:=rfl
theorem YardZ.setTip {S:Nat->Prop}{yb mb n0:Nat}{c:Cfg}{s:Ts}{w:World}{q:List Pw}{sb:Nat}{qv ov:Value}{x:Xt}{tl:List Tp}{zs:List (Nat×Sm)}(h:YardZ w S yb mb n0 c s q sb qv ov x tl zs){bm n':Nat}{g:ByteArray->ByteArray}(hM:FilesMap w bm n' g)(hS:S bm)(hne:sb≠bm):
    YardZ (w.setCell ⟨yb,7,none⟩ (.map (some bm))) S yb mb n0 c {s with tip:=g} q sb qv ov {x with tip:=bm,n:=n'} tl zs/\OnlyT w (w.setCell ⟨yb,7,none⟩ (.map (some bm))) S [201]:=by
  have O:OnlyT w (w.setCell ⟨yb,7,none⟩ (.map (some bm))) S [201]:=OnlyT.mk ((Only.refl w λk=>k=yb).set (.inl rfl)) λk hk e=>by
    subst e
    exact⟨h.is.fy,201,by simp,h.is.box.ty⟩
  have hi:=λ(k:Nat) (hk:S k)=>hk
  have hB:=h.is.box.set 7 (.map (some bm))
  rw[set7 (n':=n')] at hB
  exact⟨YardZ.mk' ⟨h.rest.nm,Nat.lt_of_lt_of_le h.rest.ml O.size,.inr hS,O.map hM (by decide),h.rest.main.keptT O.k hi (by decide) (by decide),h.rest.train.keptT O.k hi (Nat.le_refl _) (by decide) (by decide) (by unfold NoSeg;decide)⟩ h.is.qs hB (h.is.que.keptT O.k hi (by decide) (by decide)) (O.sub h.is.sub (by decide)) (h.is.outs.keptT O.k hi (by decide)) h.is.fy h.is.fs hne,O⟩
theorem YardZ.setMain {S:Nat->Prop}{yb mb n0:Nat}{c:Cfg}{s:Ts}{w w':World}{q:List Pw}{sb:Nat}{qv ov:Value}{x:Xt}{tl:List Tp}{zs:List (Nat×Sm)}(h:YardZ w S yb mb n0 c s q sb qv ov x tl zs){mv iv:Value}{by_:Nat}{ids:List Nat}(hO:OnlyT w w' S [201,110])(hB:Bx w' yb 201 (yardCells c {x with mv:=mv} s.begun s.now qv sb s.outs.length ov))(hm:Sl w' 110 2 mv (tl.length+1) (tl.flatMap cTp++[.int .i64 by_,iv]))(hmv:mv.ownBlock=x.mv.ownBlock\/∃g,mv.ownBlock=some g/\w.heap.size<=g)(hiv:Sl w' 3 1 iv ids.length (ids.map cI))(hin:∀g,iv.ownBlock=some g->w.heap.size<=g):
    YardZ w' (Plus S w) yb mb n0 c {s with main:=s.main++[(by_,ids)]} q sb qv ov {x with mv:=mv} (tl++[((by_,ids),iv)]) zs:=by
  have hp:=Plus.old (S:=S) w
  refine YardZ.mk' ⟨h.is.np,Nat.lt_of_lt_of_le h.rest.ml hO.size,h.rest.tip.imp (λe=>e) .inl,hO.map h.rest.map (by decide),⟨?_,?_,?_,λy hy=>?_⟩,h.rest.train.keptT hO.k hp (Nat.le_refl _) (by decide) (by decide) (by unfold NoSeg;decide)⟩ h.is.qs hB (h.is.que.keptT hO.k hp (by decide) (by decide)) (hO.sub h.is.sub (by decide)) (h.is.outs.keptT hO.k hp (by decide)) (.inl h.is.fy) (.inl h.is.fs) h.is.nt
  · rw[List.map_append,h.rest.main.fst];rfl
  · rw[List.length_append,List.flatMap_append];simpa[cTp] using hm
  · intro g hg
    rcases hmv with e|⟨g',e,hg'⟩
    · rw[show ({x with mv:=mv}:Xt).mv=mv from rfl,e] at hg;exact .inl (h.rest.main.own g hg)
    · rw[show ({x with mv:=mv}:Xt).mv=mv from rfl,e] at hg;cases hg;exact .inr hg'
  · rcases List.mem_append.1 hy with hy|hy
    · exact⟨hO.sl (h.rest.main.ids y hy).1 (by decide),(h.rest.main.ids y hy).2.mono hp⟩
    · obtain rfl:=List.mem_singleton.1 hy
      exact⟨hiv,λg hg=>.inr (hin g hg)⟩
def lnd (l:List Cg):List (Nat×Nat):=l.map λy=>(y.1,1)
theorem tLand {S:Nat->Prop}{yb mb n0 p bm n':Nat}{c:Cfg}{s:Ts}{f:Sm}{w:World}{q:List Pw}{sb:Nat}{qv ov:Value}{x:Xt}{tl:List Tp}{zs:List (Nat×Sm)}{g':ByteArray->ByteArray}(h:YardZ w S yb mb n0 c s q sb qv ov x tl ((p,f)::zs))(hM:FilesMap w bm n' g')(hS:S bm)(hne:sb≠bm)(h8:f.l.length<=8)(ho:s.outs.length<1048575000)(ha:s.acked<=s.outs.length)(hm:s.main.length<1048575000):
    Calls prog 212 #[ptr yb,ptr p,.map (some bm)] w λe w'=>e=.returned (.tuple #[])/\(∃ov' mv' tv' tl',YardZ w' (Plus S w) yb mb n0 c {s with tip:=g',outs:=s.outs++lnd f.l,main:=s.main++[(f.by_,f.l.map Prod.fst)],segs:=zs.map Prod.snd} q sb qv ov' ⟨bm,mv',tv',n'⟩ tl' zs)/\OnlyT w w' S [201,99,110,210]:=by
  obtain⟨i0,hi0,hz0,hz1,hz2⟩:=info_parts info_tip
  obtain⟨cv,jv,cl,hseg⟩:=h.rest.train.segs (p,f) (by simp)
  have hcl:cl.length=f.l.length:=by rw[<-hseg.chs.fst,List.length_map]
  obtain⟨ca,ccap,rfl⟩:=hseg.chs.row.form
  have hT:=h.setTip hM hS hne
  have HY0:Hid (YardZ (w.setCell ⟨yb,7,none⟩ (.map (some bm))) S yb mb n0 c {s with tip:=g'} q sb qv ov {x with tip:=bm,n:=n'} tl ((p,f)::zs)):=hT.1
  have HO0:Hid (OnlyT w (w.setCell ⟨yb,7,none⟩ (.map (some bm))) S [201]):=hT.2
  have HSeg0:Hid (SegIs (w.setCell ⟨yb,7,none⟩ (.map (some bm))) S (s.top n0) p f (.slice ca cl.length ccap) jv cl):=⟨hT.2.bx hseg.box (by decide),hseg.chs.keptT hT.2.k (λ_ h=>h) (by decide) (by decide),hseg.job.keptT hT.2.k (λ_ h=>h) (Nat.le_refl _) (by decide) (by decide),hseg.own⟩
  have y7:=h.is.box.c 7 (.map (some x.tip))
  have f7:=h.is.box.fr 7
  have p0:(w.setCell ⟨yb,7,none⟩ (.map (some bm))).cell? ⟨p,0,none⟩=some (.slice ca cl.length ccap):=HSeg0.out.box.cell (i:=0) rfl
  have HMB:Hid (¬Plus S w mb):=h.is.np
  have HCL:Hid (cl.length=f.l.length):=hcl
  have hsz0:(w.setCell ⟨yb,7,none⟩ (.map (some bm))).heap.size=w.heap.size:=by simp
  rw[<-hcl] at h8
  clear h hM hseg hT hcl
  unfold ptr
  go_enter func212,ntmps212
  go_upto_region 1 with fail
  generalize w.setCell ⟨yb,7,none⟩ (.map (some bm))=w0 at *
  clear y7 f7
  go_wp2_with fail
  clear p0
  have HZ0:Hid (w0.heap.size=w.heap.size):=hsz0
  clear hsz0
  go_loopw [17] (λiv wr=>∃k:Nat,k<=cl.length/\iv=.int .i64 k/\Hid (∃ov',YardZ wr (Plus S w) yb mb n0 c {s with tip:=g',outs:=s.outs++lnd (f.l.take k)} q sb qv ov' {x with tip:=bm,n:=n'} tl ((p,f)::zs))/\Hid (OnlyT w0 wr S [201,99])) (λi _=>cl.length-(intOf i).toNat)
  case atStart=>exact⟨0,Nat.zero_le _,rfl,⟨ov,by simpa[lnd] using HY0.out.mono (Plus.old w) HMB.out⟩,OnlyT.refl _ _ _⟩
  case round=>
    obtain⟨k,hk,rfl,hY,hO⟩:=hrel
    by_cases hlk:k<cl.length
    · have hch:=HSeg0.out.chs.keptT hO.out.k (Plus.old w) (by decide) (by decide)
      obtain⟨g,off,cap,hv,_⟩:=hch.row.addr (by omega)
      cases hv
      obtain⟨ea,en,ec,he⟩:=hch.sl _ (List.getElem_mem hlk)
      have hfl:k<f.l.length:=by rw[<-HCL.out];exact hlk
      have hfst:cl[k].1=f.l[k]:=by
        have:=hch.fst
        simp[<-this]
      have d0:wr.cell? ⟨g,off+k*2,none⟩=some (.int .i64 cl[k].1.1):=hch.row.cell (j:=k*2) (by rw[show k*2=k*2+0 from rfl,flat_get cC 2 (λ_=>rfl) cl k 0 hlk (by omega)];rfl)
      have d1:wr.cell? ⟨g,off+k*2+1,none⟩=some (.slice ea en ec):=by
        have:=hch.row.cell (j:=k*2+1) (u:=.slice ea en ec) (by rw[flat_get cC 2 (λ_=>rfl) cl k 1 hlk (by omega),<-he];rfl)
        rwa [<-Nat.add_assoc] at this
      obtain⟨ov1,hY1⟩:=hY.out
      have HL:Hid ((s.outs++lnd (f.l.take k))++[(cl[k].1.1,1)]=s.outs++lnd (f.l.take (k+1))):=by
        show _=_
        rw[List.take_succ_eq_append_getElem hfl,lnd,lnd,List.map_append,List.append_assoc,hfst];rfl
      have hlen:(s.outs++lnd (f.l.take k)).length<1048576000:=by
        simp[lnd];omega
      have hE:=tEndZ cl[k].1.1 1 (hY1.later (below_new wr (.cells #[.int .i64 cl[k].1.1,.slice ea en ec] 273))) hlen (by simp only[List.length_append];omega)
      have hwz:=Nat.le_trans (Nat.le_of_eq HZ0.out.symm) hO.out.size
      generalize cl[k].1.1=x0 at *
      clear hch he hfst hY1
      go_wp2_with fail
      go_fit hE
      rintro e w3 ⟨rfl,⟨ov3,hY3⟩,hO3⟩
      have HY3:Hid (YardZ w3 (Plus S w) yb mb n0 c {s with tip:=g',outs:=s.outs++lnd (f.l.take (k+1))} q sb qv ov3 {x with tip:=bm,n:=n'} tl ((p,f)::zs)):=by
        have:=hY3.mono (Plus.two (Nat.le_trans hwz (below_new wr (.cells #[.int .i64 x0,.slice ea en ec] 273)).size)) HMB.out
        rwa [<-HL.out]
      have HO3:Hid (OnlyT w0 w3 S [201,99]):=OnlyT.mono (OnlyT.trans hO.out (OnlyT.from_new hO3) λj hj=>hj.imp (λh=>h) (λh=>by rw[HZ0.out];exact h)) (λ_ h=>h) (by decide)
      clear hE hY3 hO3
      go_wp2_with fail
      exact⟨⟨k+1,hlk,by go_num,⟨ov3,HY3.out⟩,HO3.out⟩,by simp[intOf];omega⟩
    · obtain rfl:k=cl.length:=by omega
      have hY':=hY.out
      rw[show f.l.take cl.length=f.l by rw[HCL.out,List.take_length]] at hY'
      obtain⟨ov1,hY1⟩:=hY'
      have hPz:=hO.out.bx HSeg0.out.box (by decide)
      have hch:=HSeg0.out.chs.keptT hO.out.k (Plus.old w) (by decide) (by decide)
      have hC:=segIds p _ _ cl wr.drew hPz rfl hch.row hch.sl h8
      obtain⟨ma,mcap,hmv⟩:=hY1.rest.main.row.form
      have hmv':x.mv=.slice ma tl.length mcap:=hmv
      have hml:tl.length<1048575000:=by
        have:=hY1.rest.main.fst
        have e:(tl.map Prod.fst).length=s.main.length:=by rw[this]
        rw[List.length_map] at e
        omega
      have m8:wr.cell? ⟨yb,8,none⟩=some (.slice ma tl.length mcap):=by
        have:=hY1.is.box.c 8 x.mv
        rw[this,hmv']
      have p2:wr.cell? ⟨p,2,none⟩=some (.int .i64 f.by_):=hPz.cell (i:=2) rfl
      have HMR:Hid (Sl wr 110 2 (.slice ma tl.length mcap) tl.length (tl.flatMap cTp)):=by
        have:=hY1.rest.main.row
        rw[show ({x with tip:=bm,n:=n'}:Xt).mv=.slice ma tl.length mcap from hmv'] at this
        exact this
      have HBY:Hid (Bx wr yb 201 (yardCells c {x with tip:=bm,n:=n'} s.begun s.now qv sb (s.outs++lnd f.l).length ov1)):=hY1.is.box
      have hwz:=Nat.le_trans (Nat.le_of_eq HZ0.out.symm) hO.out.size
      have hids:(cl.map λy=>cI y.1.1)=(f.l.map Prod.fst).map cI:=by
        rw[<-hch.fst,List.map_map,List.map_map];rfl
      have HFin:Hid (∀w7 iv W8 w8 v8,Below wr.heap.size wr w7->w7.ownsRow wr.heap.size 3 1 iv cl.length (cl.map λy=>cI y.1.1)->Below w7.heap.size w7 W8->Sl w8 110 2 v8 (tl.length+1) (tl.flatMap cTp++[.int .i64 f.by_,iv])->W8.grownBy w8 (Value.slice ma tl.length mcap).ownBlock->(v8.ownBlock=(Value.slice ma tl.length mcap).ownBlock\/∃g,v8.ownBlock=some g/\W8.heap.size<=g)->∃mv' tl',YardZ (w8.setCell ⟨yb,8,none⟩ v8) (Plus S w) yb mb n0 c {s with tip:=g',outs:=s.outs++lnd f.l,main:=s.main++[(f.by_,f.l.map Prod.fst)]} q sb qv ov1 ⟨bm,mv',x.tv,n'⟩ tl' ((p,f)::zs)/\OnlyT wr (w8.setCell ⟨yb,8,none⟩ v8) (Plus S w) [201,110]):=λw7 iv W8 w8 v8 hb7 hr7 hB8' hS8 hG8 hL8=>by
        have hbW:Below wr.heap.size wr W8:=below_then hb7 hB8'
        have hmne:(Value.slice ma tl.length mcap).ownBlock≠some yb:=HMR.out.ne HBY.out (by decide)
        have hB8:Bx w8 yb 201 (yardCells c {x with tip:=bm,n:=n'} s.begun s.now qv sb (s.outs++lnd f.l).length ov1):=(HBY.out.later hbW).grown hG8 hmne.symm
        have hvne:v8.ownBlock≠some yb:=by
          rcases hL8 with e|⟨g,e,hg⟩
          · rw[e];exact hmne
          · rw[e];intro e';cases e'
            have:=HBY.out.lt
            have:=hbW.size
            omega
        have O8:OnlyT wr (w8.setCell ⟨yb,8,none⟩ v8) (Plus S w) [201,110]:=OnlyT.mk (E:=λk=>k=yb\/(Value.slice ma tl.length mcap).ownBlock=some k) (((Only.of_below hbW).trans (Only.of_grown hG8 (S:=λk=>(Value.slice ma tl.length mcap).ownBlock=some k) λk e=>e) λk e=>.inl (.inr e)).set (.inl (.inl rfl))) λk _ e=>by
          rcases e with rfl|e
          · exact⟨hY1.is.fy,201,by simp,HBY.out.ty⟩
          · exact⟨hY1.rest.main.own k (by rw[show ({x with tip:=bm,n:=n'}:Xt).mv=.slice ma tl.length mcap from hmv'];exact e),110,by simp,HMR.out.ty e⟩
        have hB9:=hB8.set 8 v8
        rw[set8] at hB9
        refine⟨v8,_,YardZ.mono (hY1.setMain (by_:=f.by_) (ids:=f.l.map Prod.fst) (iv:=iv) O8 hB9 ?_ ?_ ?_ ?_) (Plus.two hwz) HMB.out,O8⟩
        · exact hS8.grown (grown_set _ _ _ _) (λg hg e=>hvne (by rw[hg];exact e.symm))
        · rcases hL8 with e|⟨g,e,hg⟩
          · exact .inl (by rw[e,show ({x with tip:=bm,n:=n'}:Xt).mv=.slice ma tl.length mcap from hmv'])
          · exact .inr ⟨g,e,Nat.le_trans hbW.size hg⟩
        · have h1:=Sl.of_row hr7
          rw[hids] at h1
          rw[show (f.l.map Prod.fst).length=cl.length by rw[List.length_map,HCL.out]]
          have hnb:∀g,iv.ownBlock=some g->wr.heap.size<=g:=λg hg=>(World.ownsRow.lt hr7 g hg).1
          refine((h1.later hB8').grown hG8 λg hg e=>?_).grown (grown_set _ _ _ _) λg hg e=>?_
          · have:=HMR.out.lt e
            have:=hnb g hg
            omega
          · have:=hnb g hg
            have:=HBY.out.lt
            cases e
            omega
        · exact λg hg=>(World.ownsRow.lt hr7 g hg).1
      have q1:Hid (tl.length+1<=maxLen):=by show _<=_;unfold maxLen;omega
      have q2:Hid ((tl.length+1)*32<=140737488355328):=Nat.le_trans (Nat.mul_le_mul_right 32 (show tl.length+1<=1048576000 by omega)) (by decide)
      have f8:=λ(w8:World) (h:Bx w8 yb 201 (yardCells c {x with tip:=bm,n:=n'} s.begun s.now qv sb (s.outs++lnd f.l).length ov1))=>h.fr 8
      have hmne:Hid ((Value.slice ma tl.length mcap).ownBlock≠some yb):=HMR.out.ne HBY.out (by decide)
      clear hY hY1 hPz hch hmv hmv' hids f8 HY0
      go_upto_region 6 with fail
      go_cut [] from 42 (λwz=>∃mv' tl',YardZ wz (Plus S w) yb mb n0 c {s with tip:=g',outs:=s.outs++lnd f.l,main:=s.main++[(f.by_,f.l.map Prod.fst)]} q sb qv ov1 ⟨bm,mv',x.tv,n'⟩ tl' ((p,f)::zs)/\OnlyT wr wz (Plus S w) [201,110])
      case first=>
        go_region_law ((first|(refine step_call rfl 149 [_] _ rfl [ptr p] (by simp[Act.eval,Act.put,ptr]) (enters_of func149 (by kernel_rfl) rfl) hC ?_;rintro e w7 ⟨⟨iv,rfl,hr7⟩,hb7⟩;refine⟨_,rfl,?_⟩;obtain⟨ia,icap,rfl⟩:=row_form hr7;have m87:=jcell_after (show Below wr.heap.size wr w7 from ⟨hb7.os,hb7.tape,hb7.output,hb7.size,hb7.block⟩) m8;have p27:=jcell_after (show Below wr.heap.size wr w7 from ⟨hb7.os,hb7.tape,hb7.output,hb7.size,hb7.block⟩) p2;have m87a:∀o,(w7.alloc o).cell? ⟨yb,8,none⟩=some (.slice ma tl.length mcap):=(λo=>jcell_after (below_new w7 o) m87);have HB7:Hid (Below wr.heap.size wr w7):=⟨hb7.os,hb7.tape,hb7.output,hb7.size,hb7.block⟩;have HR7:Hid (w7.ownsRow wr.heap.size 3 1 (.slice ia cl.length icap) cl.length (cl.map λy=>cI y.1.1)):=hr7;clear hr7 hb7)|(refine step_append_sl rfl _ _ 106 rfl _ i0 _ 2 32 underlying106 hi0 hz0 hz1 hz2 rfl (by decide) (.slice ma tl.length mcap) _ _ (by simp[Act.eval]) (Sl.mk (HMR.out.later HB7.out) _) ⟨w7.heap.size,0,none⟩ 1 1 [.int .i64 f.by_,.slice ia cl.length icap] (by simp[Act.eval]) rfl (cells_new w7 _ _) (by simp[Value.oneCell']) q1.out q2.out ?_;intro v8 w8 hS8 hG8 hL8;obtain⟨a8,c8,rfl⟩:=hS8.form;have hB8:Bx w8 yb 201 (yardCells c {x with tip:=bm,n:=n'} s.begun s.now qv sb (s.outs++lnd f.l).length ov1):=((HBY.out.later HB7.out).mk _).grown hG8 hmne.out.symm;have m88:=hB8.c 8 x.mv;have f88:=hB8.fr 8;have HX:=HFin.out w7 _ _ w8 _ HB7.out HR7.out (below_new _ _) hS8 hG8 hL8;have HXX:Hid _:=HX;clear HX hS8 hG8 hL8 hB8)))
        all_goals
          go_wp2_with fail
          go_meet
          case rel=>exact HXX.out
      case rest=>
        obtain⟨mv',tl',hY9,hO9⟩:=hcut
        rename World=>wz
        have hD:=tDropZ hY9
        have HO9:Hid (OnlyT w wz S [201,99,110]):=OnlyT.mono (OnlyT.trans (OnlyT.trans HO0.out hO.out (Plus.old w)) hO9 λk hk=>hk) (λ_ h=>h) (by decide)
        clear hY9 hO9 hC m8 p2 HFin HMR HBY
        go_wp2_with fail
        go_fit hD
        rintro e w10 ⟨rfl,⟨tv',hY10⟩,hO10⟩
        have HY10:Hid (YardZ w10 (Plus S w) yb mb n0 c {s with tip:=g',outs:=s.outs++lnd f.l,main:=s.main++[(f.by_,f.l.map Prod.fst)],segs:=zs.map Prod.snd} q sb qv ov1 ⟨bm,mv',tv',n'⟩ tl' zs):=hY10
        have HO10:Hid (OnlyT w w10 S [201,99,110,210]):=OnlyT.mono (OnlyT.trans HO9.out hO10 λk hk=>hk) (λ_ h=>h) (by decide)
        clear hY10 hO10 hD
        go_wp2_with fail
        go_end0
        exact⟨rfl,⟨ov1,mv',tv',tl',HY10.out⟩,HO10.out⟩
end Go.Proofs.YtgamgomepdfgdaaGreat
