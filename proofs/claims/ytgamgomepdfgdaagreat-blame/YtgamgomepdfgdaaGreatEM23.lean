import Derived.Sort.CutIn
import Derived.Test.YtgamgomepdfgdaaGreatEM22
import Derived.Test.YtgamgomepdfgdaaGreatEM14
import Derived.Test.YtgamgomepdfgdaaGreatEM21
set_option maxRecDepth 100000
set_option maxHeartbeats 8000000
namespace Go.Proofs.YtgamgomepdfgdaaGreat
open Go.RowKit Go.Proofs.Tryz
theorem Ts.conflict_cons (s:Ts)(f:Sm)(m:List Sm)(y:Cg)(l:List Cg)(h:f.l=y::l):s.conflict f m={s with outs:=s.outs++[(y.1,3)],segs:=newIf l++m}:=by
  simp[Ts.conflict,h]
theorem Plus.three {S:Nat->Prop}{w w1 w2:World}(h1:w.heap.size<=w1.heap.size)(h2:w.heap.size<=w2.heap.size):∀k,Plus (Plus (Plus S w) w1) w2 k->Plus S w k:=λk hk=>by
  rcases hk with (hk|hk)|hk
  · exact hk
  · exact .inr (Nat.le_trans h1 hk)
  · exact .inr (Nat.le_trans h2 hk)
theorem tConflict {S:Nat->Prop}{yb mb n0 p:Nat}{c:Cfg}{s:Ts}{f:Sm}{w:World}{q:List Pw}{sb:Nat}{qv ov:Value}{x:Xt}{tl:List Tp}{zs:List (Nat×Sm)}(h:YardZ w S yb mb n0 c s q sb qv ov x tl ((p,f)::zs))(hf:f.l≠[])(ho:s.outs.length<1048576000)(ha:s.acked<=s.outs.length)(hl:zs.length<1048576000):
    Calls prog 210 #[ptr yb,ptr p] w λe w'=>e=.returned (.tuple #[])/\(∃ov' tv' zs',YardZ w' (Plus S w) yb mb n0 c (s.conflict f (zs.map Prod.snd)) q sb qv ov' {x with tv:=tv'} tl zs')/\OnlyT w w' S [201,99,210]:=by
  obtain⟨y,l,hyl⟩:∃y l,f.l=y::l:=by
    cases hq:f.l with
    |nil=>exact absurd hq hf
    |cons y l=>exact⟨y,l,rfl⟩
  rw[Ts.conflict_cons s f _ y l hyl]
  obtain⟨cv,jv,cl,hseg⟩:=h.rest.train.segs (p,f) (by simp)
  have hfst:=hseg.chs.fst
  rw[show (p,f).2.l=y::l from hyl] at hfst
  obtain⟨y',cl',rfl,rfl,rfl⟩:∃y' cl',cl=y'::cl'/\y'.1=y/\cl'.map Prod.fst=l:=by
    cases cl with
    |nil=>simp at hfst
    |cons a b=>
      rw[List.map_cons,List.cons.injEq] at hfst
      exact⟨a,b,rfl,hfst.1,hfst.2⟩
  obtain⟨g,off,cap,rfl,hnc,hcm⟩:=hseg.chs.row.addr (by simp)
  have hE:=tEndZ y'.1.1 3 h ho ha
  have HY:Hid (YardZ w S yb mb n0 c s q sb qv ov x tl ((p,f)::zs)):=h
  have c0:w.cell? ⟨p,0,none⟩=some (.slice (some ⟨g,off,none⟩) (cl'.length+1) cap):=hseg.box.cell (i:=0) rfl
  have d0:w.cell? ⟨g,off,none⟩=some (.int .i64 y'.1.1):=hseg.chs.row.cell (j:=0) rfl
  have HSeg:Hid (SegIs w S (s.top n0) p f (.slice (some ⟨g,off,none⟩) (cl'.length+1) cap) jv (y'::cl')):=hseg
  have HL:Hid (f.l=y'.1::cl'.map Prod.fst):=hyl
  rw[List.length_cons] at hnc
  unfold maxLen at hcm
  clear h hseg hf hyl hfst
  generalize y'.1.1=id at *
  unfold ptr
  go_enter func210,ntmps210
  go_wp2_with fail
  go_fit hE
  rintro e w1 ⟨rfl,⟨ov1,hY1⟩,hO1⟩
  have hD:=tDropZ hY1
  have HO1:Hid (OnlyT w w1 S [201,99]):=hO1
  clear hE hY1 hO1 c0 d0
  go_wp2_with fail
  go_fit hD
  rintro e w2 ⟨rfl,⟨tv2,hY2⟩,hO2⟩
  have HO12:Hid (OnlyT w w2 S [201,99,201,210]):=HO1.out.trans hO2 λk hk=>hk
  have hch:ChsIs w2 (Plus S w) (.slice (some ⟨g,off,none⟩) (cl'.length+1) cap) (y'.1::cl'.map Prod.fst) (y'::cl'):=by
    have:=HSeg.out.chs.keptT HO12.out.k (Plus.old w) (by decide) (by decide)
    rwa [HL.out] at this
  have c0:w2.cell? ⟨p,0,none⟩=some (.slice (some ⟨g,off,none⟩) (cl'.length+1) cap):=(HO12.out.bx HSeg.out.box (by decide)).cell (i:=0) rfl
  have hw2:w.heap.size<=w2.heap.size:=HO12.out.size
  have HY2:Hid (YardZ w2 (Plus S w) yb mb n0 c {s with outs:=s.outs++[(id,3)],segs:=zs.map Prod.snd} q sb qv ov1 {x with tv:=tv2} tl zs):=hY2
  have hmb:¬Plus S w mb:=HY.out.is.np
  have hO:Hid (OnlyT w w2 S [201,99,210]):=HO12.out.mono (λ_ h=>h) (by decide)
  by_cases hz:cl'=[]
  · subst hz
    clear hY2 hO2 hD hch
    go_wp2_with fail
    all_goals
      go_end0
      exact⟨rfl,⟨ov1,tv2,zs,by simpa[newIf] using HY2.out⟩,hO.out⟩
  · have hpos:0<cl'.length:=List.length_pos_iff.2 hz
    have hcap1:¬cap-1=0:=by omega
    have hc1:¬cap=1:=by omega
    have htail:=hch.tail (k:=1) (by simp) (off':=off+2) (.inl (by omega))
    rw[if_neg hcap1,List.drop_one,List.drop_one,List.tail_cons,List.tail_cons,Nat.add_sub_cancel] at htail
    have hnew:=seg_new (N:=Ts.top n0 {s with outs:=s.outs++[(id,3)],segs:=zs.map Prod.snd}) htail
    have hY3:YardZ (w2.alloc (.cells (segCells (.slice (some ⟨g,off+2,none⟩) cl'.length (cap-1)) 0 0 (.pointer none)) 240)) (Plus (Plus S w) w2) yb mb n0 c {s with outs:=s.outs++[(id,3)],segs:=zs.map Prod.snd} q sb qv ov1 {x with tv:=tv2} tl zs:=(hY2.later (below_new _ _)).mono (Plus.old w2) (Plus.not hmb hY2.rest.ml)
    have hA:=tAddZ hY3 (w2.heap.size,Sm.new (cl'.map Prod.fst)) hnew (λe=>by
      obtain⟨z,hz,e⟩:=List.mem_map.1 e
      obtain⟨_,_,_,hs⟩:=hY2.rest.train.segs z hz
      have:=hs.box.lt
      omega) hl
    have HB3:Hid (Below w2.heap.size w2 (w2.alloc (.cells (segCells (.slice (some ⟨g,off+2,none⟩) cl'.length (cap-1)) 0 0 (.pointer none)) 240))):=below_new _ _
    unfold segCells at hA HB3
    clear hY2 hO2 hD hch hnew htail hY3
    go_wp2_with fail
    go_fit hA
    rintro e w4 ⟨rfl,⟨tv4,hY4⟩,hO4⟩
    have HY4:Hid (YardZ w4 (Plus S w) yb mb n0 c {s with outs:=s.outs++[(id,3)],segs:=Sm.new (cl'.map Prod.fst)::zs.map Prod.snd} q sb qv ov1 {x with tv:=tv4} tl ((w2.heap.size,Sm.new (cl'.map Prod.fst))::zs)):=hY4.mono (Plus.three hw2 (Nat.le_trans hw2 HB3.out.size)) hmb
    have HO4:Hid (OnlyT w2 w4 (Plus S w) [201,210]):=(OnlyT.below (ts:=[]) HB3.out).trans hO4 λk hk=>hk
    clear hA hY4 hO4
    go_wp2_with fail
    go_end0
    refine⟨rfl,⟨ov1,tv4,(w2.heap.size,Sm.new (cl'.map Prod.fst))::zs,?_⟩,OnlyT.mono (OnlyT.trans hO.out HO4.out λk hk=>hk) (λ_ h=>h) (by decide)⟩
    have e:newIf (cl'.map Prod.fst)=[Sm.new (cl'.map Prod.fst)]:=by
      unfold newIf
      rw[if_neg (by simpa using hz)]
    rw[e]
    exact HY4.out
section
open Go.Shelf
theorem KeepT.own {W W':World}{row:Option Nat}(hg:W.grownBy W' row)(hr:∀r,row=some r->∃o:Obj,W.heap[r]? =some o/\o.isCells=false):KeepT W W' [tMap]:=
  ⟨hg.size,λk t hk ht=>hg.block k hk.lt λe=>by
    obtain⟨o,ho,hc⟩:=hr k e.symm
    rcases hk with ⟨cur,hk⟩|⟨rfl,_⟩
    · rw[hk] at ho;cases ho;cases hc
    · exact ht (by simp)⟩
theorem OnlyT.own {w W W':World}{S:Nat->Prop}{ts:List TypeId}{B:Nat}{row:Option Nat}(h:OnlyT w W S ts)(hB:w.heap.size<=B)(hg:W.grownBy W' row)(hr:∀r,row=some r->B<=r):OnlyT w W' S ts:=
  ⟨hg.os.trans (Only.os h),hg.tape.trans (Only.tape h),hg.output.trans (Only.output h),Nat.le_trans h.size hg.size,λk hk hn=>(hg.block k (Nat.lt_of_lt_of_le hk h.size) λe=>by have:=hr k e.symm;omega).trans (Only.block h k hk hn)⟩
def EachIs (w W:World)(S:Nat->Prop)(N:Nat)(zs:List (Nat×Sm))(f:Sm->Sm)(pre:List Nat):Prop:=OnlyT w W S [240]/\∀z∈zs,SegAt W S N (z.1,if z.1∈pre then f z.2 else z.2)
theorem EachIs.own {w:World}{S:Nat->Prop}{N:Nat}{zs:List (Nat×Sm)}{f:Sm->Sm}{ps:List Nat}{B:Nat}(hB:w.heap.size<=B):OwnFrom B (λ(pre:List (Pt ps)) W=>EachIs w W S N zs f (pre.map Subtype.val)):=λs W W' row hs hg hr=>
  ⟨hs.1.own hB hg λr e=>(hr r e).1,λz hz=>(hs.2 z hz).keptT (KeepT.own hg λr e=>(hr r e).2) (λ_ h=>h) (Nat.le_refl _) (by decide) (by unfold NoSeg;decide)⟩
theorem EachIs.start {w:World}{S:Nat->Prop}{N:Nat}{zs:List (Nat×Sm)}{f:Sm->Sm}(h:∀z∈zs,SegAt w S N z){W:World}(hb:Below w.heap.size w W):EachIs w W S N zs f []:=
  ⟨OnlyT.below hb,λz hz=>by simpa using (h z hz).kept (λk hk _=>hb.block k hk) (λ_ h=>h) (Nat.le_refl _)⟩
theorem EachIs.step {w W W':World}{S:Nat->Prop}{N:Nat}{zs:List (Nat×Sm)}{f:Sm->Sm}{pre:List Nat}{p:Nat}(h:EachIs w W S N zs f pre)(hnd:(zs.map Prod.fst).Nodup){y:Sm}(hy:(p,y)∈zs)(hO:Only W W' (λk=>k=p))(hs:SegAt W' S N (p,f y)):EachIs w W' S N zs f (pre++[p]):=by
  have hW:TyAt W p 240/\S p:=by
    obtain⟨cv,jv,cl,hz⟩:=h.2 (p,y) hy
    exact⟨hz.box.ty,hz.own⟩
  have hT:OnlyT W W' S [240]:=OnlyT.mk hO λk _ e=>by
    subst e
    exact⟨hW.2,240,by simp,hW.1⟩
  refine⟨OnlyT.mono (OnlyT.trans h.1 hT (Plus.old w)) (λ_ h=>h) (by decide),λz hz=>?_⟩
  by_cases e:z.1=p
  · have:z=(p,y):=by
      have key:∀(l:List (Nat×Sm)),(l.map Prod.fst).Nodup->z∈l->(p,y)∈l->z=(p,y):=λl=>by
        induction l with
        |nil=>intro _ h;cases h
        |cons a l ih=>
          intro hn h1 h2
          rw[List.map_cons,List.nodup_cons] at hn
          rcases List.mem_cons.1 h1 with rfl|h3
          · rcases List.mem_cons.1 h2 with h4|h4
            · exact h4.symm
            · exact absurd (List.mem_map.2 ⟨_,h4,e.symm⟩) hn.1
          · rcases List.mem_cons.1 h2 with rfl|h4
            · exact absurd (List.mem_map.2 ⟨_,h3,e⟩) hn.1
            · exact ih hn.2 h3 h4
      exact key zs hnd hz hy
    subst this
    simpa using hs
  · obtain⟨cv,jv,cl,hseg⟩:=h.2 z hz
    have e2:(z.1∈pre++[p])↔z.1∈pre:=by simp[e]
    simp only[e2]
    exact⟨cv,jv,cl,(hO.block _ hseg.box.lt e).trans hseg.box,hseg.chs.keptT hT.k (λ_ h=>h) (by decide) (by decide),hseg.job.keptT hT.k (λ_ h=>h) (Nat.le_refl _) (by decide) (by decide),hseg.own⟩
theorem EachIs.done {w W:World}{S:Nat->Prop}{yb mb n0:Nat}{c:Cfg}{s:Ts}{q:List Pw}{sb:Nat}{qv ov:Value}{x:Xt}{tl:List Tp}{zs:List (Nat×Sm)}{f:Sm->Sm}(h:YardZ w S yb mb n0 c s q sb qv ov x tl zs)(hE:EachIs w W S (s.top n0) zs f (zs.map Prod.fst)):YardZ W S yb mb n0 c {s with segs:=s.segs.map f} q sb qv ov x tl (zs.map λz=>(z.1,f z.2)):=by
  have hi:=λ(k:Nat) (hk:S k)=>hk
  have O:=hE.1
  refine YardZ.mk' ⟨h.rest.nm,Nat.lt_of_lt_of_le h.rest.ml O.size,h.rest.tip,O.map h.rest.map (by decide),h.rest.main.keptT O.k hi (by decide) (by decide),?_,?_,h.rest.train.own,?_,λz hz=>?_⟩ h.is.qs (O.bx h.is.box (by decide)) (h.is.que.keptT O.k hi (by decide) (by decide)) (O.sub h.is.sub (by decide)) (h.is.outs.keptT O.k hi (by decide)) h.is.fy h.is.fs h.is.nt
  · rw[List.map_map,<-h.rest.train.snd,List.map_map];rfl
  · have:=O.sl h.rest.train.row (by decide)
    rw[List.length_map,List.map_map]
    exact this
  · have:=h.rest.train.nd
    rw[List.map_map]
    exact this
  · obtain⟨z',hz',rfl⟩:=List.mem_map.1 hz
    have:=hE.2 z' hz'
    rwa [if_pos (List.mem_map_of_mem hz')] at this
theorem keeps_only {W W':World}{B p:Nat}{t:TypeId}(hO:Only W W' (λk=>k=p))(ht:TyAt W p t)(hne:t≠tMap):KeepsFrom B W W':=
  ⟨hO.size,λk o _ hk ho=>(hO.block k (Array.getElem?_eq_some_iff.1 hk).1 λe=>by
    subst e
    rcases ht with ⟨cur,ht⟩|⟨e,_⟩
    · rw[ht] at hk;cases hk;cases ho
    · exact hne e).trans hk⟩
theorem kp_only {W W':World}{p:Nat}{v:Value}{n:Nat}{xs:List Value}(hO:Only W W' (λk=>k=p))(ht:TyAt W p 240)(hs:Sl W 210 1 v n xs):KpOf v W W':=λg hg=>hO.block g (hs.lt hg) λe=>by
  subst e
  exact absurd (ht.one (hs.ty hg)) (by decide)
end
theorem seg_newd {w:World}{S:Nat->Prop}{N:Nat}{cv:Value}{l:List Cg}{cl:List Cw}(h:ChsIs w S cv l cl):SegAt (w.alloc (.cells (segCells cv 0 0 (.pointer none)) 240)).drew (Plus S w) N (w.heap.size,Sm.new l):=
  (seg_new h).keptT (ts:=[]) ⟨Nat.le_refl _,λ_ _ _ _=>rfl⟩ (λ_ h=>h) (Nat.le_refl _) (by decide) (by unfold NoSeg;decide)
theorem fresh_ptr {w:World}{S:Nat->Prop}{N:Nat}{zs:List (Nat×Sm)}(h:∀z∈zs,SegAt w S N z){p:Nat}(hp:w.heap.size<=p):p∉zs.map Prod.fst:=λe=>by
  obtain⟨z,hz,rfl⟩:=List.mem_map.1 e
  obtain⟨_,_,_,hs⟩:=h z hz
  have:=hs.box.lt
  omega
theorem tSplit {S:Nat->Prop}{yb mb n0 p k:Nat}{c:Cfg}{s:Ts}{f:Sm}{w:World}{q:List Pw}{sb:Nat}{qv ov:Value}{x:Xt}{tl:List Tp}{zs:List (Nat×Sm)}(h:YardZ w S yb mb n0 c s q sb qv ov x tl ((p,f)::zs))(hk:0<k)(hkl:k<f.l.length)(h8:f.l.length<=8)(hl:zs.length<1048575000):
    Calls prog 211 #[ptr yb,ptr p,.int .i64 k] w λe w'=>e=.returned (.tuple #[])/\(∃tv' zs',YardZ w' (Plus S w) yb mb n0 c (s.split f k (zs.map Prod.snd)) q sb qv ov {x with tv:=tv'} tl zs'/\zs'.length<=zs.length+2)/\OnlyT w w' S [201,210]:=by
  obtain⟨cv,jv,cl,hseg⟩:=h.rest.train.segs (p,f) (by simp)
  have hcl:cl.length=f.l.length:=by rw[<-hseg.chs.fst,List.length_map]
  obtain⟨g,off,cap,rfl,hnc,hcm⟩:=hseg.chs.row.addr (by omega)
  have hD:=tDropZ h
  have HY:Hid (YardZ w S yb mb n0 c s q sb qv ov x tl ((p,f)::zs)):=h
  have HSeg:Hid (SegIs w S (s.top n0) p f (.slice (some ⟨g,off,none⟩) cl.length cap) jv cl):=hseg
  have HCL:Hid (cl.length=f.l.length):=hcl
  unfold maxLen at hcm
  rw[<-hcl] at hkl h8
  clear h hseg hcl
  unfold ptr
  go_enter func211,ntmps211
  go_upto_region 1 with fail
  go_fit hD
  rintro e w1 ⟨rfl,⟨tv1,hY1⟩,hO1⟩
  have hB1:=hO1.bx HSeg.out.box (by decide)
  have hch:ChsIs w1 S (.slice (some ⟨g,off,none⟩) cl.length cap) f.l cl:=HSeg.out.chs.keptT hO1.k (λ_ h=>h) (by decide) (by decide)
  have hcap1:¬cap-k=0:=by omega
  have hc1:¬cap=k:=by omega
  have htail:=hch.tail (k:=k) (by rw[<-HCL.out];omega) (off':=off+k*2) (.inl rfl)
  rw[if_neg hcap1] at htail
  have hnew:=seg_newd (N:=Ts.top n0 {s with segs:=zs.map Prod.snd}) htail
  have hY2:YardZ (w1.alloc (.cells (segCells (.slice (some ⟨g,off+k*2,none⟩) (cl.length-k) (cap-k)) 0 0 (.pointer none)) 240)).drew (Plus S w1) yb mb n0 c {s with segs:=zs.map Prod.snd} q sb qv ov {x with tv:=tv1} tl zs:=(hY1.later (below_new_drew _ _)).mono (Plus.old w1) hY1.is.np
  have hA:=tAddZ hY2 (w1.heap.size,Sm.new (f.l.drop k)) hnew (fresh_ptr hY1.rest.train.segs (Nat.le_refl _)) (by omega)
  have c0:w1.cell? ⟨p,0,none⟩=some (.slice (some ⟨g,off,none⟩) cl.length cap):=hB1.cell (i:=0) rfl
  have HO1:Hid (OnlyT w w1 S [201,210]):=hO1
  have HB2:Hid (Below w1.heap.size w1 (w1.alloc (.cells (segCells (.slice (some ⟨g,off+k*2,none⟩) (cl.length-k) (cap-k)) 0 0 (.pointer none)) 240)).drew):=below_new_drew _ _
  have HC1:Hid (ChsIs w1 S (.slice (some ⟨g,off,none⟩) cl.length cap) f.l cl):=hch
  have HP1:Hid (Bx w1 p 240 (segCells (.slice (some ⟨g,off,none⟩) cl.length cap) f.fails f.by_ jv)):=hB1
  have hmb:Hid (¬Plus S w mb):=HY.out.is.np
  have hw1:w.heap.size<=w1.heap.size:=hO1.size
  have q1:(k:Int)<=cl.length:=by omega
  have q2:(0:Int)<=k:=by omega
  have wk:IntKind.i64.wrap (k:Int)=k:=wrap_i64 (by omega) (by omega)
  unfold segCells at hA HB2
  clear hD hY1 hO1 hch htail hnew hY2 hB1
  go_upto_region 1 with fail
  go_cut [] from 22 (λwz=>∃tv,YardZ wz (Plus S w) yb mb n0 c {s with segs:=Sm.new (f.l.drop k)::zs.map Prod.snd} q sb qv ov {x with tv:=tv} tl ((w1.heap.size,Sm.new (f.l.drop k))::zs)/\OnlyT w1 wz S [201,210])
  case first=>
    go_region_held_law (λw'=>w'.cell? ⟨p,0,none⟩=some (.slice (some ⟨g,off,none⟩) cl.length cap)) (go_keep) ((go_at_call 245;refine hA.mono ?_;rintro e w3 ⟨rfl,⟨tv3,hY3⟩,hO3⟩;have x3:w3.cell? ⟨p,0,none⟩=some (.slice (some ⟨g,off,none⟩) cl.length cap):=(hO3.bx (Bx.later HP1.out HB2.out) (by decide)).cell (i:=0) rfl;have HY3:Hid (YardZ w3 (Plus S w) yb mb n0 c {s with segs:=Sm.new (f.l.drop k)::zs.map Prod.snd} q sb qv ov {x with tv:=tv3} tl ((w1.heap.size,Sm.new (f.l.drop k))::zs)):=(hY3.mono (λk hk=>Plus.three hw1 (Nat.le_trans hw1 HB2.out.size) k (hk.imp (λh=>h.imp .inl (λh=>h)) (λh=>h))) hmb.out);have HO3:Hid (OnlyT w1 w3 S [201,210]):=OnlyT.trans (OnlyT.below (ts:=[]) HB2.out) hO3 (λk hk=>hk);clear hY3 hO3))
    all_goals
      go_wp2_with fail
      go_meet
      case rel=>exact⟨tv3,HY3.out,HO3.out⟩
  case rest=>
    obtain⟨tv3,hY3,hO3⟩:=hcut
    rename World=>wz
    have hPz:=hO3.bx HP1.out (by decide)
    have hch:ChsIs wz (Plus S w) (.slice (some ⟨g,off,none⟩) cl.length cap) f.l cl:=HC1.out.keptT hO3.k (Plus.old w) (by decide) (by decide)
    have hcut:=hch.cut (k:=k) (by rw[<-HCL.out];omega)
    have hwz:w.heap.size<=wz.heap.size:=Nat.le_trans hw1 hO3.size
    have hnew:=seg_newd (N:=Ts.top n0 {s with segs:=Sm.new (f.l.drop k)::zs.map Prod.snd}) hcut
    have hY4:YardZ (wz.alloc (.cells (segCells (.slice (some ⟨g,off,none⟩) k cap) 0 0 (.pointer none)) 240)).drew (Plus (Plus S w) wz) yb mb n0 c {s with segs:=Sm.new (f.l.drop k)::zs.map Prod.snd} q sb qv ov {x with tv:=tv3} tl ((w1.heap.size,Sm.new (f.l.drop k))::zs):=(hY3.later (below_new_drew _ _)).mono (Plus.old wz) hY3.is.np
    have hA:=tAddZ hY4 (wz.heap.size,Sm.new (f.l.take k)) hnew (fresh_ptr hY3.rest.train.segs (Nat.le_refl _)) (by rw[List.length_cons];omega)
    have c0:wz.cell? ⟨p,0,none⟩=some (.slice (some ⟨g,off,none⟩) cl.length cap):=hPz.cell (i:=0) rfl
    have HBz:Hid (Below wz.heap.size wz (wz.alloc (.cells (segCells (.slice (some ⟨g,off,none⟩) k cap) 0 0 (.pointer none)) 240)).drew):=below_new_drew _ _
    have HPz:Hid (Bx wz p 240 (segCells (.slice (some ⟨g,off,none⟩) cl.length cap) f.fails f.by_ jv)):=hPz
    have HOz:Hid (OnlyT w wz S [201,210]):=OnlyT.mono (OnlyT.trans HO1.out hO3 (Plus.old w)) (λ_ h=>h) (by decide)
    have q3:(k:Int)<=cap:=by omega
    unfold segCells at hA HBz
    clear hY3 hO3 hPz hch hcut hnew hY4
    go_wp2_with fail
    go_region_held_law (λw'=>w'.cell? ⟨p,0,none⟩=some (.slice (some ⟨g,off,none⟩) cl.length cap)) (go_keep) ((go_at_call 245;refine hA.mono ?_;rintro e w5 ⟨rfl,⟨tv5,hY5⟩,hO5⟩;have x5:w5.cell? ⟨p,0,none⟩=some (.slice (some ⟨g,off,none⟩) cl.length cap):=(hO5.bx (Bx.later HPz.out HBz.out) (by decide)).cell (i:=0) rfl;have HY5:Hid (YardZ w5 (Plus S w) yb mb n0 c {s with segs:=Sm.new (f.l.take k)::Sm.new (f.l.drop k)::zs.map Prod.snd} q sb qv ov {x with tv:=tv5} tl ((wz.heap.size,Sm.new (f.l.take k))::(w1.heap.size,Sm.new (f.l.drop k))::zs)):=(hY5.mono (Plus.three hwz (Nat.le_trans hwz HBz.out.size)) hmb.out);have HO5:Hid (OnlyT w w5 S [201,210]):=OnlyT.mono (OnlyT.trans HOz.out (OnlyT.trans (OnlyT.below (ts:=[]) HBz.out) hO5 (λk hk=>hk)) (λk hk=>hk)) (λ_ h=>h) (by decide);clear hY5 hO5))
    all_goals
      go_wp2_with fail
      go_end0
      exact⟨rfl,⟨tv5,_,HY5.out,by simp⟩,HO5.out⟩
section
open Go.Shelf
attribute [local go_sem] Oper.semAt_some
def loseOne (x:Sm):Sm:={x with job:=none}
theorem tLose {S:Nat->Prop}{yb mb n0:Nat}{c:Cfg}{s:Ts}{w:World}{q:List Pw}{sb:Nat}{qv ov:Value}{x:Xt}{tl:List Tp}{zs:List (Nat×Sm)}(h:YardZ w S yb mb n0 c s q sb qv ov x tl zs)(hl:zs.length<=8):
    Calls prog 122 #[ptr yb] w λe w'=>e=.returned (.tuple #[])/\(∃zs',YardZ w' S yb mb n0 c s.lose q sb qv ov x tl zs')/\OnlyT w w' S [240]:=by
  obtain⟨ta,tcap,htv⟩:=h.rest.train.row.form
  have c11:w.cell? ⟨yb,11,none⟩=some (.slice ta zs.length tcap):=by rw[<-htv];exact h.is.box.cell (i:=11) rfl
  have hB0:Below w.heap.size w (w.alloc (.cells #[.slice ta zs.length tcap] 195)):=below_new _ _
  have hrow:Sl w 210 1 (.slice ta (zs.map Prod.fst).length tcap) (zs.map Prod.fst).length ((zs.map Prod.fst).map ptr):=by
    have:=h.rest.train.row
    rw[List.length_map,List.map_map,<-htv]
    exact this
  have hpl:(zs.map Prod.fst).length=zs.length:=List.length_map _
  unfold ptr
  refine(callsIn_wide (n:=3)).1 ?_
  refine callsIn_of_wp_marks func122 rfl trivial ?_ rfl
  simp only[ntmps122,List.size_toArray,List.length_cons,List.length_nil,Nat.reduceAdd,Nat.reduceSub,Array.replicate_succ,Array.replicate_zero,List.push_toArray,List.append_toArray,List.nil_append,List.cons_append]
  gi_wp2_with (refine⟨trivial,?_⟩;gi_at_call 147;refine(callsIn_wide.2 (lineAll yb ta zs.length tcap w c11)).mono ?_;rintro e w' ⟨rfl,rfl⟩)
  rw[hpl] at hrow
  refine wpIn_rangeFunc_ownG (α:=Pt (zs.map Prod.fst)) (n:=3) (F:=Fence.wide) rfl (by decide) (gf:=223) (lb:=#[.pointer (some ⟨w.heap.size,0,none⟩)]) rfl trivial (enters_of func223 (by kernel_rfl) rfl)
    (sv_stops Fence.wide 2 trivial rfl (by decide) w.heap.size (.slice ta zs.length tcap) (zs.map Prod.fst) (by rw[hpl];omega) (w.alloc (.cells #[.slice ta zs.length tcap] 195)) (by simp) (by simp) (by rw[hpl];exact hrow.mk _)) kpOf_t (kpOf_b λg hg=>Nat.lt_of_lt_of_le (hrow.lt hg) hB0.size) (Below.refl _ _) (λ_=>rfl)
    (λpre W=>EachIs w W S (s.top n0) zs loseOne (pre.map Subtype.val)) (λ_ _ _=>False) (EachIs.own hB0.size) (λ_ _ _ _ _ hs _ _=>hs) (EachIs.start h.rest.train.segs hB0)
    (λy=>{tmps:=#[.pointer (some ⟨yb,0,none⟩),undef,.pointer (some ⟨y.1,0,none⟩),.pointer (some ⟨yb,0,none⟩),.pointer (some ⟨yb,0,none⟩),.pointer (some ⟨yb,11,none⟩),.func (.func 223) #[] #[.pointer (some ⟨w.heap.size,0,none⟩)],.pointer (some ⟨y.1,0,none⟩),undef,undef,undef],defers:=[]}) ?assign ?body ?done ?stop
  case assign=>
    intro l y W K hK
    unfold ptr
    gi_wp2
    exact hK
  case body=>
    rintro l pre ⟨p,hp⟩ W hE _
    obtain⟨⟨p',y⟩,hz,rfl⟩:=List.mem_map.1 hp
    obtain⟨cv,jv,cl,hseg⟩:=hE.2 (p',y) hz
    have f3:=hseg.box.fr 3
    have c3:=hseg.box.c 3 jv
    gi_wp2
    have hO:Only W (W.setCell ⟨p',3,none⟩ (.pointer none)) (λk=>k=p'):=(Only.refl W λk=>k=p').set (.inl rfl)
    have hT:=hseg.box.ty
    refine⟨keeps_only hO hT (by decide),kp_only hO hT (hE.1.sl hrow (by decide)),?_⟩
    have hS:SegAt (W.setCell ⟨p',3,none⟩ (.pointer none)) S (s.top n0) (p',loseOne (if p'∈pre.map Subtype.val then loseOne y else y)):=by
      have O:OnlyT W (W.setCell ⟨p',3,none⟩ (.pointer none)) S [240]:=OnlyT.mk hO λk _ e=>by
        subst e
        exact⟨hseg.own,240,by simp,hT⟩
      refine⟨cv,.pointer none,cl,?_,hseg.chs.keptT O.k (λ_ h=>h) (by decide) (by decide),rfl,hseg.own⟩
      have:=hseg.box.set 3 (.pointer none)
      simpa[segCells,loseOne] using this
    rw[show loseOne (if p'∈pre.map Subtype.val then loseOne y else y)=loseOne y by split<;>rfl] at hS
    have:=hE.step h.rest.train.nd hz hO hS
    simpa using this
  case done=>
    rintro D ys W hD rfl hE hK
    gi_wp2
    refine⟨by simp,.inl ⟨_,_,rfl,run_takeDeferred hK,?_⟩⟩
    have hE2:=(EachIs.own (ps:=zs.map Prod.fst) (S:=S) (N:=s.top n0) (zs:=zs) (f:=loseOne) (w:=w) hB0.size).putObj (.deferred none) hE hD hK rfl
    rw[List.attach_map_subtype_val] at hE2
    exact⟨_,results_none rfl _ _ _,rfl,⟨_,hE2.done h⟩,hE2.1⟩
  case stop=>
    rintro D c pre W _ _ h _
    exact h.elim
end
section
open Go.Shelf
attribute [local go_sem] Oper.semAt_some
theorem OnlyT.drewN {w W:World}{S:Nat->Prop}{ts:List TypeId}(h:OnlyT w W S ts)(n:Nat):OnlyT w (W.drewN n) S ts:=by
  have h':Only w W _:=h
  exact⟨h'.os,h'.tape,h'.output,h'.size,h'.block⟩
theorem KeepT.drewN (W:World)(n:Nat):KeepT W (W.drewN n) []:=⟨Nat.le_refl _,λ_ _ _ _=>rfl⟩
theorem EachIs.drewN {w W:World}{S:Nat->Prop}{N:Nat}{zs:List (Nat×Sm)}{f:Sm->Sm}{pre:List Nat}(h:EachIs w W S N zs f pre)(n:Nat):EachIs w (W.drewN n) S N zs f pre:=⟨h.1.drewN n,λz hz=>(h.2 z hz).keptT (KeepT.drewN W n) (λ_ h=>h) (Nat.le_refl _) (by decide) (by unfold NoSeg;decide)⟩
theorem EachIs.same {w W:World}{S:Nat->Prop}{N:Nat}{zs:List (Nat×Sm)}{f:Sm->Sm}{pre:List Nat}{p:Nat}{y:Sm}(h:EachIs w W S N zs f pre)(hnd:(zs.map Prod.fst).Nodup)(hy:(p,y)∈zs)(hf:(if p∈pre then f y else y)=f y):EachIs w W S N zs f (pre++[p]):=by
  have hs:=h.2 (p,y) hy
  simp only at hs
  rw[hf] at hs
  exact h.step hnd hy (Only.refl _ _) hs
theorem set13 (c:Cfg)(x:Xt)(b t t':Nat)(qv:Value)(sb n:Nat)(ov:Value):(yardCells c x b t qv sb n ov).setIfInBounds 13 (.int .i64 t')=yardCells c x b t' qv sb n ov:=rfl
theorem YardZ.setNow {S:Nat->Prop}{yb mb n0:Nat}{c:Cfg}{s:Ts}{w:World}{q:List Pw}{sb:Nat}{qv ov:Value}{x:Xt}{tl:List Tp}{zs:List (Nat×Sm)}(h:YardZ w S yb mb n0 c s q sb qv ov x tl zs)(t:Nat):
    YardZ (w.setCell ⟨yb,13,none⟩ (.int .i64 t)) S yb mb n0 c {s with now:=t} q sb qv ov x tl zs/\OnlyT w (w.setCell ⟨yb,13,none⟩ (.int .i64 t)) S [201]:=by
  have O:OnlyT w (w.setCell ⟨yb,13,none⟩ (.int .i64 t)) S [201]:=OnlyT.mk ((Only.refl w λk=>k=yb).set (.inl rfl)) λk hk e=>by
    subst e
    exact⟨h.is.fy,201,by simp,h.is.box.ty⟩
  have hi:=λ(k:Nat) (hk:S k)=>hk
  have hB:=h.is.box.set 13 (.int .i64 t)
  rw[set13] at hB
  exact⟨YardZ.mk' (h.rest.keptT O.k hi h.rest.nm rfl rfl rfl (Nat.le_refl _) (by unfold NoRest NoSeg;decide) (O.map h.rest.map (by decide))) h.is.qs hB (h.is.que.keptT O.k hi (by decide) (by decide)) (O.sub h.is.sub (by decide)) (h.is.outs.keptT O.k hi (by decide)) h.is.fy h.is.fs h.is.nt,O⟩
theorem keeps_drew {B:Nat}(W:World)(n:Nat):KeepsFrom B W (W.drewN n):=⟨Nat.le_refl _,λ_ _ _ hk _=>hk⟩
def tickOne (now:Nat)(x:Sm):Sm:=if x.due now then x.ends false 0 else x
theorem tickOne_job {now:Nat}{x:Sm}(h:x.job=none):tickOne now x=x:=by
  unfold tickOne Sm.due
  rw[h];rfl
theorem tickOne_two (now:Nat)(x:Sm):tickOne now (tickOne now x)=tickOne now x:=by
  by_cases h:x.due now=true
  · have e:tickOne now x=x.ends false 0:=if_pos h
    rw[e]
    exact tickOne_job (Sm.ends_job _ _ _)
  · have e:tickOne now x=x:=if_neg h
    rw[e,e]
theorem tTick {S:Nat->Prop}{yb mb n0:Nat}(m:Nat){c:Cfg}{s:Ts}{w:World}{q:List Pw}{sb:Nat}{qv ov:Value}{x:Xt}{tl:List Tp}{zs:List (Nat×Sm)}(h:YardZ w S yb mb n0 c s q sb qv ov x tl zs)(hl:zs.length<=8)(hm:m<=1000)(hn:s.now<1048576000)(hf:∀z∈zs,z.2.fails<1000/\∀j,z.2.job=some j->j.til<1048577000):
    Calls prog 120 #[ptr yb,.int .i64 m] w λe w'=>e=.returned (.tuple #[])/\(∃zs',YardZ w' S yb mb n0 c (s.tick m) q sb qv ov x tl zs')/\OnlyT w w' S [201,240]:=by
  obtain⟨ta,tcap,htv⟩:=h.rest.train.row.form
  have hN:=(h.later (below_new w (.cells #[.pointer (some ⟨yb,0,none⟩)] 130))).setNow (s.now+m)
  have hB2:Bx ((w.alloc (.cells #[.pointer (some ⟨yb,0,none⟩)] 130)).setCell ⟨yb,13,none⟩ (.int .i64 ((s.now+m:Nat):Int))) w.heap.size 130 #[.pointer (some ⟨yb,0,none⟩)]:=hN.2.bx (Bx.new _ _ _) (by decide)
  have b0:(w.alloc (.cells #[.pointer (some ⟨yb,0,none⟩)] 130)).cell? ⟨w.heap.size,0,none⟩=some (.pointer (some ⟨yb,0,none⟩)):=(Bx.new w #[.pointer (some ⟨yb,0,none⟩)] 130).cell (i:=0) rfl
  have y13:(w.alloc (.cells #[.pointer (some ⟨yb,0,none⟩)] 130)).cell? ⟨yb,13,none⟩=some (.int .i64 s.now):=(h.is.box.mk _).cell (i:=13) rfl
  have f13:=(h.is.box.mk (.cells #[.pointer (some ⟨yb,0,none⟩)] 130)).fr 13
  have HO1:Hid (OnlyT w ((w.alloc (.cells #[.pointer (some ⟨yb,0,none⟩)] 130)).setCell ⟨yb,13,none⟩ (.int .i64 ((s.now+m:Nat):Int))) S [201]):=OnlyT.from_new hN.2
  have HY1:Hid (YardZ ((w.alloc (.cells #[.pointer (some ⟨yb,0,none⟩)] 130)).setCell ⟨yb,13,none⟩ (.int .i64 ((s.now+m:Nat):Int))) S yb mb n0 c {s with now:=s.now+m} q sb qv ov x tl zs):=hN.1
  have HCast:Hid ((s.now:Int)+(m:Int)=((s.now+m:Nat):Int)):=by
    show _=_
    omega
  have hpl:(zs.map Prod.fst).length=zs.length:=List.length_map _
  have HTV:Hid (x.tv=.slice ta zs.length tcap):=htv
  have HF:Hid (∀z∈zs,z.2.fails<1000/\∀j,z.2.job=some j->j.til<1048577000):=hf
  have HB2:Hid (Bx ((w.alloc (.cells #[.pointer (some ⟨yb,0,none⟩)] 130)).setCell ⟨yb,13,none⟩ (.int .i64 ((s.now+m:Nat):Int))) w.heap.size 130 #[.pointer (some ⟨yb,0,none⟩)]):=hB2
  clear h hN htv hf hB2
  unfold ptr
  refine(callsIn_wide (n:=3)).1 ?_
  refine callsIn_of_wp_marks func120 rfl trivial ?_ rfl
  simp only[ntmps120,List.size_toArray,List.length_cons,List.length_nil,Nat.reduceAdd,Nat.reduceSub,Array.replicate_succ,Array.replicate_zero,List.push_toArray,List.append_toArray,List.nil_append,List.cons_append]
  gi_upto_region 2 with fail
  rw[HCast.out]
  generalize (w.alloc (.cells #[.pointer (some ⟨yb,0,none⟩)] 130)).setCell ⟨yb,13,none⟩ (.int .i64 ((s.now+m:Nat):Int))=w1 at *
  have hrow:Sl w1 210 1 (.slice ta zs.length tcap) zs.length ((zs.map Prod.fst).map ptr):=by
    have:=HY1.out.rest.train.row
    rw[List.map_map,<-HTV.out]
    exact this
  have c11:w1.cell? ⟨yb,11,none⟩=some (.slice ta zs.length tcap):=by rw[<-HTV.out];exact HY1.out.is.box.cell (i:=11) rfl
  have b1:w1.cell? ⟨w.heap.size,0,none⟩=some (.pointer (some ⟨yb,0,none⟩)):=HB2.out.cell (i:=0) rfl
  have HRow:Hid (Sl w1 210 1 (.slice ta zs.length tcap) zs.length ((zs.map Prod.fst).map ptr)):=hrow
  have hB0:Hid (Below w1.heap.size w1 (w1.alloc (.cells #[.slice ta zs.length tcap] 195))):=below_new _ _
  clear b0 y13 f13 hrow
  gi_wp2_with (refine⟨trivial,?_⟩;gi_at_call 147;refine(callsIn_wide.2 (lineAll yb ta zs.length tcap w1 c11)).mono ?_;rintro e w' ⟨rfl,rfl⟩)
  refine wpIn_rangeFunc_ownG (α:=Pt (zs.map Prod.fst)) (n:=3) (F:=Fence.wide) rfl (by decide) (gf:=223) (lb:=#[.pointer (some ⟨w1.heap.size,0,none⟩)]) rfl trivial (enters_of func223 (by kernel_rfl) rfl)
    (sv_stops Fence.wide 2 trivial rfl (by decide) w1.heap.size (.slice ta zs.length tcap) (zs.map Prod.fst) (by rw[hpl];omega) (w1.alloc (.cells #[.slice ta zs.length tcap] 195)) (by simp) (by simp) (by rw[hpl];exact HRow.out.mk _)) kpOf_t (kpOf_b λg hg=>Nat.lt_of_lt_of_le (HRow.out.lt hg) hB0.out.size) (Below.refl _ _) (λ_=>rfl)
    (λpre W=>EachIs w1 W S (s.top n0) zs (tickOne (s.now+m)) (pre.map Subtype.val)) (λ_ _ _=>False) (EachIs.own hB0.out.size) (λ_ _ _ _ _ hs _ _=>hs) (EachIs.start HY1.out.rest.train.segs hB0.out)
    (λy=>{tmps:=#[.pointer (some ⟨yb,0,none⟩),.int .i64 m,.pointer (some ⟨w.heap.size,0,none⟩),undef,.pointer (some ⟨y.1,0,none⟩),.pointer (some ⟨yb,0,none⟩),.pointer (some ⟨yb,0,none⟩),.pointer (some ⟨yb,13,none⟩),.int .i64 s.now,.int .i64 m,.int .i64 ((s.now:Int)+(m:Int)),.pointer (some ⟨yb,0,none⟩),.pointer (some ⟨yb,13,none⟩),.pointer (some ⟨yb,0,none⟩),.pointer (some ⟨yb,0,none⟩),.pointer (some ⟨yb,11,none⟩),.func (.func 223) #[] #[.pointer (some ⟨w1.heap.size,0,none⟩)],.pointer (some ⟨y.1,0,none⟩),undef,undef,undef,undef,undef,undef,undef,undef,undef,undef,undef,undef,undef,undef,undef,undef,undef,undef,undef,undef,undef],defers:=[]}) ?assign ?body ?done ?stop
  case assign=>
    intro l y W K hK
    unfold ptr
    gi_wp2
    exact hK
  case body=>
    rintro l pre ⟨p,hp⟩ W hE _
    obtain⟨⟨p',y⟩,hz,rfl⟩:=List.mem_map.1 hp
    obtain⟨cv,jv,cl,hseg⟩:=hE.2 (p',y) hz
    have hfy:=HF.out (p',y) hz
    have hsame:(if p'∈pre.map Subtype.val then tickOne (s.now+m) y else y)=tickOne (s.now+m) (if p'∈pre.map Subtype.val then tickOne (s.now+m) y else y)->EachIs w1 W S (s.top n0) zs (tickOne (s.now+m)) ((pre++[(⟨p',hp⟩:Pt (zs.map Prod.fst))]).map Subtype.val):=λe=>by
      have:=hE.same HY1.out.rest.train.nd hz (by rw[e];split<;>first|exact tickOne_two _ _|rfl)
      simpa using this
    have hff:tickOne (s.now+m) (if p'∈pre.map Subtype.val then tickOne (s.now+m) y else y)=tickOne (s.now+m) y:=by split<;>first|exact tickOne_two _ _|rfl
    have hle:(if p'∈pre.map Subtype.val then tickOne (s.now+m) y else y).fails<1048576000:=by
      have h1:y.fails<1000:=hfy.1
      have h2:(tickOne (s.now+m) y).fails<=y.fails+1:=by
        unfold tickOne Sm.ends
        split<;>simp
      split<;>omega
    have htl:∀j,(if p'∈pre.map Subtype.val then tickOne (s.now+m) y else y).job=some j->j.til<1048577000:=by
      split
      · intro j hj
        unfold tickOne at hj
        split at hj
        · rw[Sm.ends_job] at hj;cases hj
        · exact hfy.2 j hj
      · exact hfy.2
    have Hst:Hid (∀W',Only W W' (λk=>k=p')->SegAt W' S (s.top n0) (p',tickOne (s.now+m) y)->EachIs w1 W' S (s.top n0) zs (tickOne (s.now+m)) ((pre++[(⟨p',hp⟩:Pt (zs.map Prod.fst))]).map Subtype.val)):=λW' hO hS=>by
      have:=hE.step HY1.out.rest.train.nd hz hO hS
      simpa using this
    have y13:W.cell? ⟨yb,13,none⟩=some (.int .i64 ((s.now+m:Nat):Int)):=(hE.1.bx HY1.out.is.box (by decide)).cell (i:=13) rfl
    have b2:W.cell? ⟨w.heap.size,0,none⟩=some (.pointer (some ⟨yb,0,none⟩)):=(hE.1.bx HB2.out (by decide)).cell (i:=0) rfl
    have HE:Hid (EachIs w1 W S (s.top n0) zs (tickOne (s.now+m)) (pre.map Subtype.val)):=hE
    simp only at hseg
    generalize (if p'∈pre.map Subtype.val then tickOne (s.now+m) y else y)=y' at *
    have c3:=hseg.box.c 3 jv
    have HS:Hid (SegIs W S (s.top n0) p' y' cv jv cl):=hseg
    clear hE
    cases ej:y'.job with
    |none=>
      have ejv:jv=.pointer none:=by have:=hseg.job;rw[ej] at this;exact this
      subst ejv
      clear hseg
      have Hs:=hsame (by rw[tickOne_job ej])
      refine wpIn_block (wpIn_seq (wpIn_round_quiet rfl (by kernel_rfl) rfl ?_))
      repeat (first|go_big_quiet_step (fail)|quiet_step (fail))
      refine wpQuiet_nil ?_
      rintro _ ⟨nq,rfl⟩
      show Code.wpIn _ _ _ _ _ _ _
      gi_wp2
      exact⟨keeps_drew _ _,λ_ _=>rfl,Hs.drewN nq⟩
    |some j=>
      obtain⟨jb,jt,jfl,rfl,hJ,-,-,-,-,-⟩:JobIs W S (s.top n0) jv (some j):=ej▸hseg.job
      have j1:=hJ.cell (i:=1) rfl
      unfold ptr at c3
      by_cases hdue:j.til<=s.now+m
      · have hd:decide ((j.til:Int)<=((s.now+m:Nat):Int))=true:=by rw[decide_eq_true_iff];omega
        clear hseg
        refine wpIn_block (wpIn_seq (wpIn_round_quiet rfl (by kernel_rfl) rfl ?_))
        repeat (first|go_big_quiet_step (fail)|quiet_step (fail))
        refine wpQuiet_nil ?_
        rintro _ ⟨nq,rfl⟩
        show Code.wpIn _ _ _ _ _ _ _
        gi_wp2_with (refine⟨trivial,?_⟩;gi_at_call 119;refine(calls_round _ _ (segEnd_fail p' y'.fails y'.by_ cv (ptr jb) (W.drewN nq) HS.out.box hle)).mono ?_;rintro e w' ⟨rfl,HB',HO'⟩)
        have hO:Only W w' (λk=>k=p'):=Only.trans (⟨rfl,rfl,rfl,Nat.le_refl _,λ_ _ _=>rfl⟩:Only W (W.drewN nq) (λk=>k=p')) HO' λ_ h=>.inl h
        have hT:=HS.out.box.ty
        refine⟨keeps_only hO hT (by decide),kp_only hO hT (HE.out.1.sl HRow.out (by decide)),Hst.out w' hO ?_⟩
        have O:OnlyT W w' S [240]:=OnlyT.mk hO λk _ e=>by
          subst e
          exact⟨HS.out.own,240,by simp,hT⟩
        have e2:tickOne (s.now+m) y'={y' with fails:=y'.fails+1,job:=none}:=by
          unfold tickOne
          rw[if_pos ((Sm.due_iff _ _).2 ⟨j,ej,hdue⟩)];rfl
        rw[<-hff,e2]
        exact⟨cv,.pointer none,cl,HB',HS.out.chs.keptT O.k (λ_ h=>h) (by decide) (by decide),rfl,HS.out.own⟩
      · have hd:decide ((j.til:Int)<=((s.now+m:Nat):Int))=false:=by rw[decide_eq_false_iff_not];omega
        have Hs:=hsame (by unfold tickOne;rw[if_neg];rw[Sm.due_iff];rintro⟨j',e,h⟩;rw[ej] at e;cases e;exact hdue h)
        clear hseg
        refine wpIn_block (wpIn_seq (wpIn_round_quiet rfl (by kernel_rfl) rfl ?_))
        repeat (first|go_big_quiet_step (fail)|quiet_step (fail))
        refine wpQuiet_nil ?_
        rintro _ ⟨nq,rfl⟩
        show Code.wpIn _ _ _ _ _ _ _
        gi_wp2
        exact⟨keeps_drew _ _,λ_ _=>rfl,Hs.drewN nq⟩
  case done=>
    rintro D ys W hD rfl hE hK
    gi_wp2
    refine⟨by simp,.inl ⟨_,_,rfl,run_takeDeferred hK,?_⟩⟩
    have hE2:=(EachIs.own (ps:=zs.map Prod.fst) (S:=S) (N:=s.top n0) (zs:=zs) (f:=tickOne (s.now+m)) (w:=w1) hB0.out.size).putObj (.deferred none) hE hD hK rfl
    rw[List.attach_map_subtype_val] at hE2
    exact⟨_,results_none rfl _ _ _,rfl,⟨_,hE2.done HY1.out⟩,OnlyT.mono (OnlyT.trans HO1.out hE2.1 (Plus.old w)) (λ_ h=>h) (by decide)⟩
  case stop=>
    rintro D c pre W _ _ h _
    exact h.elim
end
end Go.Proofs.YtgamgomepdfgdaaGreat
