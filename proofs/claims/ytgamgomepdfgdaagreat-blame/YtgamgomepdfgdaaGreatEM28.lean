import Derived.Deep.LoopGhost
import Derived.Test.YtgamgomepdfgdaaGreatEM27
import Derived.Test.YtgamgomepdfgdaaGreatEM25
set_option maxRecDepth 100000
set_option maxHeartbeats 8000000
namespace Go.Proofs.YtgamgomepdfgdaaGreat
open Go.RowKit Go.Proofs.Tryz
section
attribute [local go_sem] Oper.semAt_some
theorem tBegun {S:Nat->Prop}{yb mb n0:Nat}{c:Cfg}{s:Ts}{w:World}(h:YardAt w S yb mb n0 c s)(hI:s.Inv c)(hc:c.Ok)(hi:s.ids.length<1048575000)(h0:n0<1048576000)(hbg:s.begun<1048576000)(hnw:s.now<1048576000):
    Calls prog 172 #[ptr yb] w λe w'=>e=.returned (.tuple #[])/\GoneTo w w' S yb mb n0 c (s.begin c):=by
  obtain⟨q,sb,qv,ov,x,h,hx⟩:=h
  refine(tBegin h hx hI hc hi h0 hbg hnw).mono ?_
  rintro e w' ⟨rfl,hY,hO⟩
  exact⟨rfl,hY,OnlyT.mono hO (λ_ h=>h) (by decide)⟩
theorem GoneTo.two {w w1 w2:World}{S:Nat->Prop}{yb mb n0:Nat}{c:Cfg}{s s':Ts}(h:GoneTo w w1 S yb mb n0 c s)(h2:GoneTo w1 w2 (Plus S w) yb mb n0 c s'):GoneTo w w2 S yb mb n0 c s':=by
  obtain⟨q,sb,qv,ov,x,hY,hx⟩:=h2.1
  have hn:=h.1.nm.1
  exact⟨⟨q,sb,qv,ov,x,hY.mono (Plus.two h.2.size) hn,hx⟩,OnlyT.mono (OnlyT.trans h.2 h2.2 λ_ h=>h) (λ_ h=>h) (by decide)⟩
theorem run_none {c:Cfg}{s:Ts}(h:s.step c=none):∀n,s.run c n=s
  |0=>rfl
  |n+1=>by
    unfold Ts.run
    rw[h]
theorem tPump {S:Nat->Prop}{yb mb n0:Nat}{c:Cfg}{s:Ts}{w:World}(h:YardAt w S yb mb n0 c s)(hI:s.Inv c)(hc:c.Ok)(hi:s.ids.length<1048575000)(h0:n0<1048576000)(hbg:s.begun<1048576000)(hnw:s.now<1048576000):
    Calls prog 117 #[ptr yb] w λe w'=>e=.returned (.tuple #[])/\GoneTo w w' S yb mb n0 c (s.pump c):=by
  have HG:Hid (∀(W:World) (s':Ts),YardAt W (Plus S w) yb mb n0 c s'->s'.Inv c->s'.ids.length<1048575000->Calls prog 171 #[.pointer (some ⟨yb,0,none⟩)] W λe w'=>e=.returned (.bool (s'.step c).isSome)/\GoneTo W w' (Plus S w) yb mb n0 c ((s'.step c).getD s')):=λW s' h1 h2 h3=>tGoOn h1 h2 hc h3 h0
  have HBg:Hid (∀(W:World) (s':Ts),YardAt W (Plus S w) yb mb n0 c s'->s'.Inv c->s'.ids.length<1048575000->s'.begun<1048576000->s'.now<1048576000->Calls prog 172 #[.pointer (some ⟨yb,0,none⟩)] W λe w'=>e=.returned (.tuple #[])/\GoneTo W w' (Plus S w) yb mb n0 c (s'.begin c)):=λW s' h1 h2 h3 h4 h5=>tBegun h1 h2 hc h3 h0 h4 h5
  have HS:Hid (∃s',s'.mu=s.mu/\GoneTo w w S yb mb n0 c s'/\s'.Inv c/\(s'.ids=s.ids/\s'.begun=s.begun/\s'.now=s.now)/\s'.run c s'.mu=s.run c s.mu):=by
    obtain⟨q,sb,qv,ov,x,hY,hx⟩:=h
    exact⟨s,rfl,⟨⟨q,sb,qv,ov,x,hY.mono (Plus.old w) hY.np,hx⟩,OnlyT.refl _ _ _⟩,hI,⟨rfl,rfl,rfl⟩,rfl⟩
  clear h hI
  unfold ptr
  go_enter func117,ntmps117
  go_wp2_with fail
  go_loopg [] s.mu (λn wr=>Hid (∃s',s'.mu=n/\GoneTo w wr S yb mb n0 c s'/\s'.Inv c/\(s'.ids=s.ids/\s'.begun=s.begun/\s'.now=s.now)/\s'.run c s'.mu=s.run c s.mu))
  case atStart=>exact HS.out
  case round=>
    obtain⟨s',hm,hG,hI',hids,hrun⟩:=hrel.out
    have hg:=HG.out wr s' hG.1 hI' (by rw[hids.1];exact hi)
    have HG1:Hid (GoneTo w wr S yb mb n0 c s'):=hG
    have HI1:Hid (s'.Inv c):=hI'
    have HRun:Hid (s'.run c s'.mu=s.run c s.mu):=hrun
    have HIds:Hid (s'.ids=s.ids/\s'.begun=s.begun/\s'.now=s.now):=hids
    have HMu:Hid (s'.mu=gk):=hm
    clear hrel HS hG hI' hids hrun hm
    cases hst:s'.step c with
    |none=>
      rw[hst] at hg
      have HE:Hid (s'.begin c=s.pump c):=by
        show _=_
        unfold Ts.pump
        rw[<-HRun.out,run_none hst]
      clear hst
      go_wp2_with fail
      go_fit hg
      rintro e w2 ⟨rfl,hG2⟩
      have hG3:GoneTo w w2 S yb mb n0 c s':=GoneTo.two HG1.out hG2
      have hb:=HBg.out w2 s' hG3.1 HI1.out (by rw[HIds.out.1];exact hi) (by rw[HIds.out.2.1];exact hbg) (by rw[HIds.out.2.2];exact hnw)
      have HG3:Hid (GoneTo w w2 S yb mb n0 c s'):=hG3
      clear hg hG2 hG3
      go_wp2_with fail
      go_fit hb
      rintro e w3 ⟨rfl,hG4⟩
      have HG5:Hid (GoneTo w w3 S yb mb n0 c (s.pump c)):=by
        have:=GoneTo.two HG3.out hG4
        rwa [HE.out] at this
      clear hb hG4
      go_wp2_with fail
      go_end0
      exact⟨rfl,HG5.out⟩
    |some s2=>
      rw[hst] at hg
      have hgo:=HI1.out.goes hc hst
      have hsm:=Ts.step_same hst
      have hrs:=HI1.out.run_step hc hst
      have HI2:Hid (s2.Inv c/\s2.mu<gk/\(s2.ids=s.ids/\s2.begun=s.begun/\s2.now=s.now)/\s2.run c s2.mu=s.run c s.mu):=⟨hgo.1,by rw[<-HMu.out];exact hgo.2,⟨hsm.1.trans HIds.out.1,hsm.2.1.trans HIds.out.2.1,hsm.2.2.1.trans HIds.out.2.2⟩,hrs.symm.trans HRun.out⟩
      clear hst hgo hsm hrs
      go_wp2_with fail
      go_fit hg
      rintro e w2 ⟨rfl,hG2⟩
      have HG3:Hid (GoneTo w w2 S yb mb n0 c s2):=GoneTo.two HG1.out hG2
      clear hg hG2
      go_wp2_with fail
      go_roundg s2.mu
      case rel=>exact⟨s2,rfl,HG3.out,HI2.out.1,HI2.out.2.2.1,HI2.out.2.2.2⟩
      case measure=>exact HI2.out.2.1
end
section
attribute [local go_sem] Oper.semAt_some
theorem YardZ.at {w:World}{S:Nat->Prop}{yb mb n0:Nat}{c:Cfg}{s:Ts}{q:List Pw}{sb:Nat}{qv ov:Value}{x:Xt}{tl:List Tp}{zs:List (Nat×Sm)}(h:YardZ w S yb mb n0 c s q sb qv ov x tl zs)(hx:x.n<=n0+4*s.outs.length):YardAt w S yb mb n0 c s:=⟨q,sb,qv,ov,x,h.is,hx⟩
theorem YardZ.few {w:World}{S:Nat->Prop}{yb mb n0:Nat}{c:Cfg}{s:Ts}{q:List Pw}{sb:Nat}{qv ov:Value}{x:Xt}{tl:List Tp}{zs:List (Nat×Sm)}(h:YardZ w S yb mb n0 c s q sb qv ov x tl zs)(hI:s.Inv c):zs.length<=8:=by
  have h1:=seg_count hI.sm
  have h2:=hI.tr
  have h3:(zs.map Prod.snd).length=s.segs.length:=by rw[h.rest.train.snd]
  rw[List.length_map] at h3
  omega
theorem YardZ.sm {w:World}{S:Nat->Prop}{yb mb n0:Nat}{c:Cfg}{s:Ts}{q:List Pw}{sb:Nat}{qv ov:Value}{x:Xt}{tl:List Tp}{zs:List (Nat×Sm)}(h:YardZ w S yb mb n0 c s q sb qv ov x tl zs)(hI:s.Inv c):∀z∈zs,SmOk c s.begun s.now z.2:=λz hz=>hI.sm z.2 (by rw[<-h.rest.train.snd];exact List.mem_map_of_mem hz)
theorem jobs_one:∀{zs:List (Nat×Sm)},(zs.map Prod.snd).Pairwise JobsNe->∀{z z':Nat×Sm} {n:Nat},z∈zs->z'∈zs->z.2.runs n=true->z'.2.runs n=true->z=z'
  |[],_,_,_,_,h,_,_,_=>by cases h
  |a::l,hp,z,z',n,h1,h2,r1,r2=>by
    rw[List.map_cons,List.pairwise_cons] at hp
    obtain⟨j,ej,hj⟩:=(Sm.runs_iff _ _).1 r1
    obtain⟨k,ek,hk⟩:=(Sm.runs_iff _ _).1 r2
    rcases List.mem_cons.1 h1 with rfl|h3
    · rcases List.mem_cons.1 h2 with rfl|h4
      · rfl
      · exact absurd (hj.trans hk.symm) (hp.1 z'.2 (List.mem_map_of_mem h4) j k ej ek)
    · rcases List.mem_cons.1 h2 with rfl|h4
      · exact absurd (hk.trans hj.symm) (hp.1 z.2 (List.mem_map_of_mem h3) k j ek ej)
      · exact jobs_one hp.2 h3 h4 r1 r2
theorem yDo3 (S:Nat->Prop)(yb mb n0:Nat)(l i q:Int)(ea:Option Addr)(en ec:Nat)(p:Bool)(c:Cfg)(s:Ts)(w:World)(hY:YardAt w S yb mb n0 c s)(hI:s.Inv c)(hc:c.Ok)(hi:s.ids.length<1048575000)(h0:n0<1048576000)(hbg:s.begun<1048576000)(hnw:s.now<1048576000):
    Calls prog 76 #[.pointer (some ⟨yb,0,none⟩),.agg #[.int .i64 3,.int .i64 l,.slice ea en ec,.int .i64 i,.bool p,.int .i64 q]] w λe w'=>e=.returned (.tuple #[])/\YardAt w' (Plus S w) yb mb n0 c (s.pump c)/\Only w w' S:=by
  have hS:=tPump (hY.later (below_new w (.cells #[.int .i64 3,.int .i64 l,.slice ea en ec,.int .i64 i,.bool p,.int .i64 q] 140))) hI hc hi h0 hbg hnw
  have hnm:¬Plus S w mb:=Plus.not hY.nm.1 hY.nm.2
  unfold ptr at hS
  clear hY hI
  go_enter func76,ntmps76
  go_wp2_with fail
  go_fit hS
  rintro e w1 ⟨rfl,hY1,hO1⟩
  have HY:Hid _:=hY1
  have HO:Hid (Only w w1 S):=Only.from_new hO1.only
  clear hY1 hO1 hS
  go_wp2_with fail
  exact bodyPost_end (v:=.tuple #[]) (results_none (by kernel_rfl) _ _ _) rfl ⟨rfl,YardAt.mono HY.out Plus.from_new hnm,HO.out⟩
theorem yDo5 (S:Nat->Prop)(yb mb n0 m:Nat)(l i:Int)(ea:Option Addr)(en ec:Nat)(p:Bool)(c:Cfg)(s:Ts)(w:World)(hY:YardAt w S yb mb n0 c s)(hI:s.Inv c)(hc:c.Ok)(hm:m<=1000)(hn:s.now<1048576000):
    Calls prog 76 #[.pointer (some ⟨yb,0,none⟩),.agg #[.int .i64 5,.int .i64 l,.slice ea en ec,.int .i64 i,.bool p,.int .i64 m]] w λe w'=>e=.returned (.tuple #[])/\YardAt w' (Plus S w) yb mb n0 c (s.tick m)/\Only w w' S:=by
  have hnm:¬Plus S w mb:=Plus.not hY.nm.1 hY.nm.2
  obtain⟨q,sb,qv,ov,x,h,hx⟩:=hY
  obtain⟨tl,zs,hZ⟩:=h.z
  have hZ1:=hZ.later (below_new w (.cells #[.int .i64 5,.int .i64 l,.slice ea en ec,.int .i64 i,.bool p,.int .i64 m] 140))
  have hS:=tTick m hZ1 (hZ.few hI) hm hn λz hz=>by
    have h1:=hZ.sm hI z hz
    have h2:=hc.2.2.2.2.1
    have h3:=hc.2.2.2.2.2.1.2
    exact⟨by have:=h1.fails;omega,λj hj=>by have:=(h1.job j hj).2.2.2.2;omega⟩
  unfold ptr at hS
  have HX:Hid (x.n<=n0+4*s.outs.length):=hx
  clear h hZ hZ1 hI hc hx
  go_enter func76,ntmps76
  go_wp2_with fail
  go_fit hS
  rintro e w1 ⟨rfl,⟨zs',hY1⟩,hO1⟩
  have HY:Hid (YardAt w1 S yb mb n0 c (s.tick m)):=hY1.at HX.out
  have HO:Hid (Only w w1 S):=Only.from_new hO1.only
  clear hY1 hO1 hS
  go_wp2_with fail
  exact bodyPost_end (v:=.tuple #[]) (results_none (by kernel_rfl) _ _ _) rfl ⟨rfl,YardAt.mono HY.out (Plus.old w) hnm,HO.out⟩
theorem yDo7 (S:Nat->Prop)(yb mb n0:Nat)(l i q:Int)(ea:Option Addr)(en ec:Nat)(p:Bool)(c:Cfg)(s:Ts)(w:World)(hY:YardAt w S yb mb n0 c s)(hI:s.Inv c):
    Calls prog 76 #[.pointer (some ⟨yb,0,none⟩),.agg #[.int .i64 7,.int .i64 l,.slice ea en ec,.int .i64 i,.bool p,.int .i64 q]] w λe w'=>e=.returned (.tuple #[])/\YardAt w' (Plus S w) yb mb n0 c s.lose/\Only w w' S:=by
  have hnm:¬Plus S w mb:=Plus.not hY.nm.1 hY.nm.2
  obtain⟨q',sb,qv,ov,x,h,hx⟩:=hY
  obtain⟨tl,zs,hZ⟩:=h.z
  have hZ1:=hZ.later (below_new w (.cells #[.int .i64 7,.int .i64 l,.slice ea en ec,.int .i64 i,.bool p,.int .i64 q] 140))
  have hS:=tLose hZ1 (hZ.few hI)
  unfold ptr at hS
  have HX:Hid (x.n<=n0+4*s.outs.length):=hx
  clear h hZ hZ1 hI hx
  go_enter func76,ntmps76
  go_wp2_with fail
  go_fit hS
  rintro e w1 ⟨rfl,⟨zs',hY1⟩,hO1⟩
  have HY:Hid (YardAt w1 S yb mb n0 c s.lose):=hY1.at HX.out
  have HO:Hid (Only w w1 S):=Only.from_new hO1.only
  clear hY1 hO1 hS
  go_wp2_with fail
  exact bodyPost_end (v:=.tuple #[]) (results_none (by kernel_rfl) _ _ _) rfl ⟨rfl,YardAt.mono HY.out (Plus.old w) hnm,HO.out⟩
def ansOne (num:Nat)(pass:Bool)(x:Sm):Sm:=if x.runs num then x.ends pass num else x
theorem ans_done {w W:World}{S:Nat->Prop}{yb mb n0:Nat}{c:Cfg}{s:Ts}{q:List Pw}{sb:Nat}{qv ov:Value}{x:Xt}{tl:List Tp}{zs:List (Nat×Sm)}{num:Nat}{pass:Bool}{z:Nat×Sm}(h:YardZ w S yb mb n0 c s q sb qv ov x tl zs)(hI:s.Inv c)(hz:z∈zs)(hr:z.2.runs num=true)(hO:Only w W (λk=>k=z.1))(hS:SegAt W S (s.top n0) (z.1,z.2.ends pass num)):
    (∃zs',YardZ W S yb mb n0 c (s.answer num pass) q sb qv ov x tl zs')/\OnlyT w W S [240]:=by
  have e:ansOne num pass z.2=z.2.ends pass num:=if_pos hr
  have hE:=(EachIs.start (f:=ansOne num pass) h.rest.train.segs (Below.refl _ w)).step h.rest.train.nd hz hO (by rw[e];exact hS)
  have hE2:EachIs w W S (s.top n0) zs (ansOne num pass) (zs.map Prod.fst):=⟨hE.1,λz' hz'=>by
    have:=hE.2 z' hz'
    rw[if_pos (List.mem_map_of_mem hz')]
    by_cases e1:z'.1=z.1
    · simpa[e1] using this
    · have e2:ansOne num pass z'.2=z'.2:=if_neg λhr'=>e1 (by rw[jobs_one (by rw[h.rest.train.snd];exact hI.jobs) hz' hz hr' hr])
      rw[e2]
      simpa[e1] using this⟩
  exact⟨⟨_,hE2.done h⟩,hE2.1⟩
theorem ans_none {w:World}{S:Nat->Prop}{yb mb n0:Nat}{c:Cfg}{s:Ts}{q:List Pw}{sb:Nat}{qv ov:Value}{x:Xt}{tl:List Tp}{zs:List (Nat×Sm)}{num:Nat}{pass:Bool}(h:YardZ w S yb mb n0 c s q sb qv ov x tl zs)(hn:∀z∈zs,z.2.runs num=false):s.answer num pass=s:=by
  have:(s.segs.map λx=>if x.runs num then x.ends pass num else x)=s.segs:=by
    rw[<-h.rest.train.snd,List.map_map]
    refine List.map_congr_left λz hz=>?_
    simp[hn z hz]
  unfold Ts.answer
  rw[this]
theorem yDo4 (S:Nat->Prop)(yb mb n0 num:Nat)(l i:Int)(ea:Option Addr)(en ec:Nat)(p:Bool)(c:Cfg)(s:Ts)(w:World)(hY:YardAt w S yb mb n0 c s)(hI:s.Inv c)(hc:c.Ok):
    Calls prog 76 #[.pointer (some ⟨yb,0,none⟩),.agg #[.int .i64 4,.int .i64 l,.slice ea en ec,.int .i64 i,.bool p,.int .i64 num]] w λe w'=>e=.returned (.tuple #[])/\YardAt w' (Plus S w) yb mb n0 c (s.answer num p)/\Only w w' S:=by
  have hnm:¬Plus S w mb:=Plus.not hY.nm.1 hY.nm.2
  obtain⟨q,sb,qv,ov,x,h,hx⟩:=hY
  obtain⟨tl,zs,hZ⟩:=h.z
  have hS:=tTested num (hZ.later (below_new w (.cells #[.int .i64 4,.int .i64 l,.slice ea en ec,.int .i64 i,.bool p,.int .i64 num] 140))) (hZ.few hI)
  unfold ptr at hS
  have HX:Hid (x.n<=n0+4*s.outs.length):=hx
  have HZ:Hid (YardZ w S yb mb n0 c s q sb qv ov x tl zs):=hZ
  have HI:Hid (s.Inv c):=hI
  have HR:Hid (∀z∈zs,z.2.fails<1048576000):=λz hz=>by
    have h1:=hZ.sm hI z hz
    have h2:=hc.2.2.2.2.1
    have:=h1.fails
    omega
  have HB0:Hid (Below w.heap.size w (w.alloc (.cells #[.int .i64 4,.int .i64 l,.slice ea en ec,.int .i64 i,.bool p,.int .i64 num] 140))):=below_new _ _
  have HRB:Hid (Bx (w.alloc (.cells #[.int .i64 4,.int .i64 l,.slice ea en ec,.int .i64 i,.bool p,.int .i64 num] 140)) w.heap.size 140 #[.int .i64 4,.int .i64 l,.slice ea en ec,.int .i64 i,.bool p,.int .i64 num]):=Bx.new _ _ _
  clear h hZ hI hc hx
  go_enter func76,ntmps76
  go_wp2_with fail
  go_fit hS
  rintro e w1 ⟨hb1,⟨z,hz,hzr,rfl⟩|⟨hn,rfl⟩⟩
  · have HB1:Hid (Below w.heap.size w w1):=HB0.out.trans (hb1.mono HB0.out.size)
    have hrb:Bx w1 w.heap.size 140 #[.int .i64 4,.int .i64 l,.slice ea en ec,.int .i64 i,.bool p,.int .i64 num]:=(hb1.block _ HRB.out.lt).trans HRB.out
    have r4:=hrb.cell (i:=4) rfl
    have HZ1:Hid (YardZ w1 S yb mb n0 c s q sb qv ov x tl zs):=HZ.out.later HB1.out
    obtain⟨cv,jv,cl,hseg⟩:=HZ1.out.rest.train.segs z hz
    obtain⟨j,ej,hj⟩:=(Sm.runs_iff _ _).1 hzr
    obtain⟨jb,jt,jfl,rfl,hJ,-,-,-,-,-⟩:JobIs w1 S (s.top n0) jv (some j):=ej▸hseg.job
    have HS1:Hid (SegIs w1 S (s.top n0) z.1 z.2 cv (ptr jb) cl):=hseg
    have HZz:Hid (z∈zs/\z.2.runs num=true):=⟨hz,hzr⟩
    have key:Calls prog 119 #[.pointer (some ⟨z.1,0,none⟩),.bool p] w1 λe w'=>e=.returned (.tuple #[])/\Only w1 w' (λk=>k=z.1)/\SegAt w' S (s.top n0) (z.1,z.2.ends p num):=by
      have fin:∀w' (f' b':Nat),Only w1 w' (λk=>k=z.1)->Bx w' z.1 240 (segCells cv f' b' (.pointer none))->SegAt w' S (s.top n0) (z.1,{z.2 with fails:=f',by_:=b',job:=none}):=λw' f' b' hO hB=>by
        have O:OnlyT w1 w' S [240]:=OnlyT.mk hO λk _ e=>by
          subst e
          exact⟨HS1.out.own,240,by simp,HS1.out.box.ty⟩
        exact⟨cv,.pointer none,cl,hB,HS1.out.chs.keptT O.k (λ_ h=>h) (by decide) (by decide),rfl,HS1.out.own⟩
      cases p with
      |true=>
        refine(segEnd_pass z.1 jb num z.2.fails z.2.by_ cv _ w1 HS1.out.box hJ (by rw[<-hj];rfl)).mono ?_
        rintro e w' ⟨rfl,hB,hO⟩
        exact⟨rfl,hO,fin w' z.2.fails num hO hB⟩
      |false=>
        refine(segEnd_fail z.1 z.2.fails z.2.by_ cv (ptr jb) w1 HS1.out.box (HR.out z hz)).mono ?_
        rintro e w' ⟨rfl,hB,hO⟩
        exact⟨rfl,hO,fin w' (z.2.fails+1) z.2.by_ hO hB⟩
    clear hseg hJ hb1 hS hrb hz hzr ej hj
    go_wp2_with fail
    go_fit key
    rintro e w2 ⟨rfl,hO2,hS2⟩
    have hA:=ans_done (pass:=p) HZ1.out HI.out HZz.out.1 HZz.out.2 hO2 hS2
    have HY:Hid (YardAt w2 S yb mb n0 c (s.answer num p)):=by
      obtain⟨⟨zs',hY'⟩,-⟩:=hA
      exact hY'.at HX.out
    have HO:Hid (Only w w2 S):=(OnlyT.trans (ts:=[]) (OnlyT.below HB1.out) hA.2 (Plus.old w)).only
    clear hA hO2 hS2 key r4
    go_wp2_with fail
    exact bodyPost_end (v:=.tuple #[]) (results_none (by kernel_rfl) _ _ _) rfl ⟨rfl,YardAt.mono HY.out (Plus.old w) hnm,HO.out⟩
  · have HB1:Hid (Below w.heap.size w w1):=HB0.out.trans (hb1.mono HB0.out.size)
    have HY:Hid (YardAt w1 S yb mb n0 c (s.answer num p)):=by
      have:=HZ.out.later HB1.out
      rw[ans_none this hn]
      exact this.at HX.out
    clear hb1 hS hn
    go_wp2_with fail
    exact bodyPost_end (v:=.tuple #[]) (results_none (by kernel_rfl) _ _ _) rfl ⟨rfl,YardAt.mono HY.out (Plus.old w) hnm,(OnlyT.below (ts:=[]) HB1.out).only⟩
theorem eds_small {es:List Ed}(h:EditsOK es):Small es:=by
  refine⟨h.2.1,λx hx=>?_⟩
  have:=h.2.2.1 x hx
  simp[okEd,okEdit,okFill,okText] at this
  omega
theorem yDoRec (S:Nat->Prop)(yb mb n0 B:Nat)(c:Cfg)(s:Ts)(r:Rc)(l i q:Nat)(ea:Option Addr)(en ec:Nat)(p:Bool)(w:World)(hY:YardAt w S yb mb n0 c s)(hr:s.Can c r)(hI:s.Inv c)(hc:c.Ok)(hi:s.ids.length<1048575000)(hbg:s.begun<1048576000)(hn:s.now<1048576000)(h0:n0<1048576000)(hQ:RecQ r B w l (.slice ea en ec) i p q):
    Calls prog 76 #[.pointer (some ⟨yb,0,none⟩),.agg #[.int .i64 r.kind,.int .i64 l,.slice ea en ec,.int .i64 i,.bool p,.int .i64 q]] w λe w'=>e=.returned (.tuple #[])/\YardAt w' (Plus S w) yb mb n0 c (s.does c r)/\Only w w' S:=by
  have hq16:s.queue.length<=16:=Nat.le_trans hI.len hc.2.2.2.2.2.2.2
  have hou:s.outs.length<=s.ids.length:=by have:=hI.cnt;omega
  obtain⟨rfl,⟨h1,rfl,rfl,rfl,g,he,_,hH⟩|⟨he,rfl,rfl,rfl,h1⟩⟩:=hQ
  · obtain⟨s1,s2,s3,s4,s5⟩:=hr.sub h1
    obtain⟨rfl,rfl,rfl⟩:=Value.slice.inj he
    have:=yDo1 S yb mb n0 r.num r.lane 0 false g 0 r.edits.length r.edits c s w hY hq16 (eds_small s5) s1 s2 (by omega) hH.1 (λi h=>by rw[Nat.zero_add];exact(hH.2.2 i h h).1) (λi h=>by rw[Nat.zero_add];exact(hH.2.2 i h h).2.1) (λi h=>by rw[Nat.zero_add];exact(hH.2.2 i h h).2.2)
    unfold recC at this
    have e:s.does c r={s with ids:=s.ids++[r.num],queue:=s.queue++[⟨r.num,r.lane,0,s.ids.length,r.edits⟩]}:=by simp[Ts.does,h1]
    rw[e]
    simpa[h1] using this
  · obtain⟨rfl,rfl,rfl⟩:=Value.slice.inj he
    obtain⟨k1,k7⟩:=hr.kind
    have hk:r.kind=2\/r.kind=3\/r.kind=4\/r.kind=5\/r.kind=6\/r.kind=7:=by omega
    rcases hk with hk|hk|hk|hk|hk|hk
    · have:=yDo2 S yb mb n0 r.num c s w hY hq16 (hr.cancel hk) (by omega) hI.ack
      have e:s.does c r={s with queue:=s.queue.filter λc=>c.id !=r.num,outs:=s.outs++[(r.num,4)]}:=by simp[Ts.does,hk]
      rw[e]
      simpa[hk] using this
    · have:=yDo3 S yb mb n0 0 0 0 none 0 0 false c s w hY hI hc hi h0 hbg hn
      have e:s.does c r=s.pump c:=by simp[Ts.does,hk]
      rw[e]
      simpa[hk] using this
    · have:=yDo4 S yb mb n0 r.num 0 0 none 0 0 r.pass c s w hY hI hc
      have e:s.does c r=s.answer r.num r.pass:=by simp[Ts.does,hk]
      rw[e]
      simpa[hk] using this
    · have:=yDo5 S yb mb n0 r.num 0 0 none 0 0 false c s w hY hI hc (hr.tick hk).2 hn
      have e:s.does c r=s.tick r.num:=by simp[Ts.does,hk]
      rw[e]
      simpa[hk] using this
    · have:=yDo6 S yb mb n0 r.num c s w hY (hr.ack hk)
      have e:s.does c r={s with acked:=s.acked+1}:=by simp[Ts.does,hk]
      rw[e]
      simpa[hk] using this
    · have:=yDo7 S yb mb n0 0 0 0 none 0 0 false c s w hY hI
      have e:s.does c r=s.lose:=by simp[Ts.does,hk]
      rw[e]
      simpa[hk] using this
end
def rc7:Rc:=⟨7,0,0,false,[]⟩
theorem rc7_ok:rc7.ok:=⟨.inr (.inr (.inr (.inr (.inr (.inl rfl))))),by decide⟩
theorem FitsT.ok {c:Cfg}{g:ByteArray->ByteArray}{rs:List Rc}(h:FitsT c g rs)(hc:c.Ok):∀r∈rs,r.ok:=λr hm=>by
  obtain⟨k,hk,rfl⟩:=List.mem_iff_getElem.1 hm
  have hr:=h k hk
  refine⟨?_,by have:=hr.num;omega⟩
  obtain⟨h1,h7⟩:=hr.kind
  by_cases e:rs[k].kind=1
  · obtain⟨_,_,_,hl,he⟩:=hr.sub e
    exact .inl ⟨e,by have:=hc.1.2;omega,eds_small he⟩
  · omega
theorem up_done {w w':World}{Y:Nat->Prop}{xb mb n0 rb yb:Nat}{c:Cfg}{s s':Ts}{L:List UInt8}{br:Bool}{keep:Int}{lv:Value}(h:UpIs w Y xb mb n0 rb yb c s L br keep lv)(hY:YardAt w' (Plus Y w) yb mb n0 c s')(hO:Only w w' Y):UpIs w' (Upto Y w w') xb mb n0 rb yb c s' L br keep lv:=by
  have hs:=hO.size
  have up4:∀k,k<w.heap.size->¬Y k->¬Upto Y w w' k:=λk hk h1 h2=>by
    rcases h2 with h2|h2
    · exact h1 h2
    · omega
  refine⟨h.box.kept hO h.nx,h.run.kept hO h.nr,h.log.kept λg hg=>hO.block g (h.log.lt hg) (h.nl g hg),(hY.tight).mono (λk hk=>?_) (up4 mb h.fm.lt h.apart.2.2.2),up4 xb h.box.lt h.nx,up4 rb h.run.lt h.nr,λg hg=>up4 g (h.log.lt hg) (h.nl g hg),?_,h.fm.kept (hO.block mb h.fm.lt h.apart.2.2.2)⟩
  · rcases hk with ⟨hk|hk,hlt⟩
    · exact .inl hk
    · exact .inr ⟨hk,hlt⟩
  · rintro k (hk|hk)
    · have:=h.yl k hk;omega
    · exact hk.2
structure Taken (w w':World)(xb mb n0:Nat)(c:Cfg)(s:Ts)(L:List UInt8)(lv:Value):Prop where
  up:∃Y rb yb lv',UpIs w' Y xb mb n0 rb yb c s L false 0 lv'/\w.heap.size<=rb/\(∀k,Y k->w.heap.size<=k)/\(lv'.ownBlock=lv.ownBlock\/∃g,lv'.ownBlock=some g/\w.heap.size<=g)
  only:Only w w' (λk=>k=xb\/lv.ownBlock=some k)
theorem mAct7 (Y:Nat->Prop)(xb mb n0 rb yb:Nat)(c:Cfg)(s:Ts)(L:List UInt8)(keep:Int)(lv:Value)(w:World)(hU:UpIs w Y xb mb n0 rb yb c s L false keep lv)(hL:L.length<1099511627776)(hI:s.Inv c):
    Calls prog 73 #[.pointer (some ⟨xb,0,none⟩),.agg #[.int .i64 7,.int .i64 0,.slice none 0 0,.int .i64 0,.bool false,.int .i64 0]] w λe w'=>e=.returned (.int .i64 0)/\Acted w w' Y xb mb n0 rb yb c s.lose (L++rc7.bytes) keep lv:=
  mAct_ok Y xb mb n0 rb yb c s s.lose L rc7.bytes keep lv 7 0 0 0 false none 0 0 w hU hL (by decide) (λW _=>yCheck7 yb W) (λW _=>prog_bytes rc7 rc7_ok none 0 0 W (λh=>by cases h)) (λW _ hY=>yDo7 Y yb mb n0 0 0 0 none 0 0 false c s W hY hI)
theorem flatten_get:∀{css:List (List Value)},(∀cs∈css,cs.length=6)->∀(k j:Nat) (hk:k<css.length),j<6->css.flatten[k*6+j]? =css[k][j]?
  |[],_,_,_,hk,_=>by simp at hk
  |cs::css,h,0,j,_,hj=>by
    have:=h cs List.mem_cons_self
    rw[List.flatten_cons,List.getElem?_append_left (by omega)]
    simp
  |cs::css,h,k+1,j,hk,hj=>by
    have h1:=h cs List.mem_cons_self
    rw[List.flatten_cons,List.getElem?_append_right (by omega)]
    have e:(k+1)*6+j-cs.length=k*6+j:=by omega
    rw[e,flatten_get (λx hx=>h x (List.mem_cons_of_mem _ hx)) k j (by simpa using hk) hj]
    simp
theorem bc_take (L:List UInt8)(n:Nat):(bc L).take n=bc (L.take n):=by simp[bc,List.map_take]
theorem mRecover_down (xb mb n0:Nat)(f:ByteArray->ByteArray)(c:Cfg)(rs:List Rc)(T L:List UInt8)(lv:Value)(w:World)(hD:DownIs w xb mb c L lv)(hL:L=allB rs++T)(hT:TornOf T)(hF:FitsT c f rs)(hc:c.Ok)(hn:rs.length<1048576)(hLn:L.length<1099511627776)(hm:FilesMap w mb n0 f)(h0:n0<1048576000):
    Calls prog 32 #[.pointer (some ⟨xb,0,none⟩)] w λe w'=>e=.returned (.int .i64 0)/\Taken w w' xb mb n0 c (Ts.all c f rs).lose (allB rs++rc7.bytes) lv:=by
  have c9:w.cell? ⟨xb,9,none⟩=some (.pointer none):=hD.box.cell (i:=9) rfl
  have c8:w.cell? ⟨xb,8,none⟩=some lv:=hD.box.cell (i:=8) rfl
  have hR:=read_walk rs T L lv w (hF.ok hc) hT hL (hD.log.bv hLn) (by omega)
  have HD:Hid (DownIs w xb mb c L lv):=hD
  have hle:(allB rs).length<=L.length:=by rw[hL,List.length_append];omega
  have HLt:Hid (L.take (allB rs).length=allB rs):=by show _=_;rw[hL,List.take_left]
  have hLn2:Hid ((allB rs).length<1099511627776):=by show _<_;omega
  obtain⟨a,cap,rfl⟩:=hD.log.form
  have hcap:L.length<=cap/\cap<=maxLen:=by
    rcases hD.log.2 with ⟨h1,h0⟩|⟨g,off,cap',cur,h1,_,h2,h3,_⟩
    · injection h1 with _ _ h1;rw[h0,h1];exact⟨Nat.le_refl _,Nat.zero_le _⟩
    · injection h1 with _ _ h1;rw[h1];exact⟨h2,h3⟩
  have hcapL:=hcap.1
  have hcapM:cap<9223372036854775808:=by have:=hcap.2;unfold maxLen at this;omega
  generalize hAn:(allB rs).length=An at *
  clear hD hL hT hcap hLn
  go_enter func32,ntmps32
  go_wp2_with fail
  go_fit hR
  rintro e w1 ⟨⟨rv,css,rfl,hRs,hrow⟩,hb1⟩
  obtain⟨va,vc,rfl⟩:=row_form hrow
  have d8:=jcell_after hb1 c8
  have hB1:=HD.out.box.later hb1
  have f8:=hB1.fr 8
  have hL1:=HD.out.log.later hb1
  clear hR c9 c8
  go_wp2_with fail
  have hne:(Value.slice a L.length cap).ownBlock≠some xb:=hL1.ne hB1 (by decide)
  have hneA:(Value.slice a An cap).ownBlock≠some xb:=λh=>hne (by cases a<;>first|exact h|(simp[Value.ownBlock] at h))
  have hB2:Bx (w1.setCell ⟨xb,8,none⟩ (.slice a An cap)) xb 135 (machCells c mb (.slice a An cap) (.pointer none)):=hB1.set 8 _
  have hL2:Sl (w1.setCell ⟨xb,8,none⟩ (.slice a An cap)) 5 1 (.slice a An cap) (allB rs).length (bc (allB rs)):=by
    have h:=hL1.cut hle
    rw[Nat.mul_one,bc_take,HLt.out] at h
    rw[hAn]
    exact h.grown (grown_set _ _ _ _) λg hg e=>hneA (by rw[hg];exact e.symm)
  have hs1:=hb1.size
  have hSt:=mStart xb mb n0 f c (allB rs) (.slice a An cap) none _ hB2 hL2 ((hm.same (hb1.block _ hm.lt)).same ((grown_set w1 xb 8 (.slice a An cap)).block mb (Nat.lt_of_lt_of_le hm.lt hs1) (λe=>by injection e with e;exact absurd ((hm.same (hb1.block _ hm.lt)).ty.one (e▸hB1.ty)) (by decide))))
  have hO2:Only w1 (w1.setCell ⟨xb,8,none⟩ (.slice a An cap)) (λk=>k=xb):=(Only.refl _ _).set (.inl rfl)
  have HB1:Hid (Bx w1 xb 135 (machCells c mb (.slice a L.length cap) (.pointer none))):=hB1
  have Hrow:Hid (Sl w1 140 6 (.slice va rs.length vc) rs.length css.flatten):=Sl.of_row hrow
  have HRs:Hid (Recs w1 w.heap.size rs css):=hRs
  have HBw:Hid (Below w.heap.size w w1):=hb1
  have hneL:Hid ((Value.slice a L.length cap).ownBlock=(Value.slice a An cap).ownBlock):=by cases a<;>rfl
  generalize w1.setCell ⟨xb,8,none⟩ (.slice a An cap)=w2 at *
  clear hB1 hL1 hB2 hL2 hrow hRs hb1 d8 f8
  go_fit hSt
  rintro e w3 ⟨rfl,⟨Y,rb,yb,hU3,hrb,hY3⟩,hO3⟩
  have HI:Hid (∃Y',UpIs w3 Y' xb mb n0 rb yb c (Ts.all c f (rs.take 0)) (allB rs) false 0 (.slice a An cap)/\∀q,Y' q->w1.heap.size<=q):=⟨Y,hU3,λq hq=>Nat.le_trans hO2.size (hY3 q hq)⟩
  have HO:Hid (Only w1 w3 (λk=>k=xb)):=hO2.trans hO3 λ_ h=>.inl h
  have Hrb:Hid (w1.heap.size<=rb):=Nat.le_trans hO2.size hrb
  clear hU3 hrb hY3 hO3 hO2 hSt
  go_wp2_with fail
  go_loopw [33] (λiv wr=>∃k:Nat,k<=rs.length/\iv=.int .i64 k/\Hid (Only w1 wr (λk=>k=xb))/\Hid (∃Y',UpIs wr Y' xb mb n0 rb yb c (Ts.all c f (rs.take k)) (allB rs) false 0 (.slice a An cap)/\∀q,Y' q->w1.heap.size<=q)) (λi _=>rs.length-(intOf i).toNat)
  case atStart=>exact⟨0,Nat.zero_le _,rfl,HO,HI⟩
  case round=>
    obtain⟨k,hk,rfl,hOk,hIk⟩:=hrel
    clear HO HI
    by_cases hlk:k<rs.length
    · have hck:k<css.length:=by rw[HRs.out.len];exact hlk
      obtain⟨l,ea,en,ec,i,p,q,hcs,hQ⟩:=HRs.out.each k hlk hck
      obtain⟨g,off,cap',hv,_⟩:=Hrow.out.addr (by omega)
      have hS:Hid (Sl w1 140 6 (.slice (some ⟨g,off,none⟩) rs.length cap') rs.length css.flatten):=by have:=Hrow.out;rw[hv] at this;exact this
      injection hv with hva _ hvc
      subst hva hvc
      have hgx:g≠xb:=λe=>hS.out.ne HB1.out (by decide) (by rw[e];rfl)
      have kk:∀j (u:Value),j<6->css[k][j]? =some u->wr.cell? ⟨g,off+k*6+j,none⟩=some u:=λj u hj hu=>by
        have:=hS.out.cell (j:=k*6+j) (u:=u) (by rw[flatten_get (Recs.flat HRs.out) k j hck hj];exact hu)
        rw[Nat.add_assoc];exact only_cell hOk.out hgx this
      rw[hcs] at kk
      have d0:wr.cell? ⟨g,off+k*6,none⟩=some (.int .i64 rs[k].kind):=kk 0 _ (by decide) rfl
      have d1:=kk 1 (.int .i64 l) (by decide) rfl
      have d2:=kk 2 (.slice ea en ec) (by decide) rfl
      have d3:=kk 3 (.int .i64 i) (by decide) rfl
      have d4:=kk 4 (.bool p) (by decide) rfl
      have d5:=kk 5 (.int .i64 q) (by decide) rfl
      obtain⟨Y',hU,hYl⟩:=hIk.out
      have HU:Hid (UpIs wr Y' xb mb n0 rb yb c (Ts.all c f (rs.take k)) (allB rs) false 0 (.slice a An cap)):=hU
      have HYl:Hid (∀q,Y' q->w1.heap.size<=q):=hYl
      have hlen:=((hF.take k).inv hc).2
      rw[List.length_take,Nat.min_eq_left hk] at hlen
      have HLen:Hid ((Ts.all c f (rs.take k)).Few k):=hlen
      have HDo:Hid (∀W,Below wr.heap.size wr W->Calls prog 76 #[.pointer (some ⟨yb,0,none⟩),.agg #[.int .i64 rs[k].kind,.int .i64 l,.slice ea en ec,.int .i64 i,.bool p,.int .i64 q]] W λe W'=>e=.returned (.tuple #[])/\YardAt W' (Plus Y' W) yb mb n0 c (Ts.all c f (rs.take (k+1)))/\Only W W' Y'):=λW hW=>by
        rw[Ts.step_at hlk]
        refine yDoRec Y' yb mb n0 w.heap.size c _ rs[k] l i q ea en ec p W (HU.out.yard.later hW) (hF k hlk) ((hF.take k).inv hc).1 hc (Nat.lt_of_le_of_lt HLen.out.ids (by omega)) (Nat.lt_of_le_of_lt HLen.out.begun (by omega)) (Nat.lt_of_le_of_lt HLen.out.now (by omega)) h0 (hQ.kept (Nat.le_trans hOk.out.size hW.size) λg' s hs=>?_)
        have hlt:=jcell_lt hs
        rw[hW.block g' (Nat.lt_of_lt_of_le hlt hOk.out.size)]
        refine hOk.out.block g' hlt λe=>?_
        rw[e,HB1.out.cell (i:=0) rfl] at hs
        cases hs
      clear hU hYl hQ hcs kk hlen hIk
      generalize rs[k].kind=r0 at *
      have HR0:Hid (Bx wr rb 137 (runCells yb false 0)):=HU.out.run
      have HX0:Hid (Bx wr xb 135 (machCells c mb (.slice a An cap) (.pointer (some ⟨rb,0,none⟩)))):=HU.out.box
      go_wp2_with fail
      have hX0:=Bx.new wr #[.int .i64 r0,.int .i64 l,.slice ea en ec,.int .i64 i,.bool p,.int .i64 q] 140
      have HB0:Hid (Below wr.heap.size wr (wr.alloc (.cells #[.int .i64 r0,.int .i64 l,.slice ea en ec,.int .i64 i,.bool p,.int .i64 q] 140))):=below_new _ _
      generalize wr.alloc (.cells #[.int .i64 r0,.int .i64 l,.slice ea en ec,.int .i64 i,.bool p,.int .i64 q] 140)=w0 at *
      have c9:w0.cell? ⟨xb,9,none⟩=some (.pointer (some ⟨rb,0,none⟩)):=(HX0.out.later HB0.out).cell (i:=9) rfl
      have r00:w0.cell? ⟨rb,0,none⟩=some (.pointer (some ⟨yb,0,none⟩)):=(HR0.out.later HB0.out).cell (i:=0) rfl
      have x0:w0.cell? ⟨wr.heap.size,0,none⟩=some (.int .i64 r0):=hX0.cell (i:=0) rfl
      have x1:w0.cell? ⟨wr.heap.size,1,none⟩=some (.int .i64 l):=hX0.cell (i:=1) rfl
      have x2:w0.cell? ⟨wr.heap.size,2,none⟩=some (.slice ea en ec):=hX0.cell (i:=2) rfl
      have x3:w0.cell? ⟨wr.heap.size,3,none⟩=some (.int .i64 i):=hX0.cell (i:=3) rfl
      have x4:w0.cell? ⟨wr.heap.size,4,none⟩=some (.bool p):=hX0.cell (i:=4) rfl
      have x5:w0.cell? ⟨wr.heap.size,5,none⟩=some (.int .i64 q):=hX0.cell (i:=5) rfl
      have nX:Hid (¬Y' xb):=HU.out.nx
      have nR:Hid (¬Y' rb):=HU.out.nr
      have nB:Hid (¬Y' wr.heap.size):=λh=>Nat.lt_irrefl _ (HU.out.yl _ h)
      have hD4:=HDo.out w0.drew ⟨HB0.out.os,HB0.out.tape,HB0.out.output,HB0.out.size,HB0.out.block⟩
      clear hX0 HDo d0 d1 d2 d3 d4 d5 HR0 HX0
      go_region_held_law (λw'=>w'.cell? ⟨xb,9,none⟩=some (.pointer (some ⟨rb,0,none⟩))/\w'.cell? ⟨rb,0,none⟩=some (.pointer (some ⟨yb,0,none⟩))/\w'.cell? ⟨wr.heap.size,0,none⟩=some (.int .i64 r0)/\w'.cell? ⟨wr.heap.size,1,none⟩=some (.int .i64 l)/\w'.cell? ⟨wr.heap.size,2,none⟩=some (.slice ea en ec)/\w'.cell? ⟨wr.heap.size,3,none⟩=some (.int .i64 i)/\w'.cell? ⟨wr.heap.size,4,none⟩=some (.bool p)/\w'.cell? ⟨wr.heap.size,5,none⟩=some (.int .i64 q)) (go_keep) ((go_at_call 76;refine hD4.mono ?_;rintro e w5 ⟨rfl,hY5,hO5⟩;have c95:=only_cell hO5 nX.out c9;have r05:=only_cell hO5 nR.out r00;have v0:=only_cell hO5 nB.out x0;have v1:=only_cell hO5 nB.out x1;have v2:=only_cell hO5 nB.out x2;have v3:=only_cell hO5 nB.out x3;have v4:=only_cell hO5 nB.out x4;have v5:=only_cell hO5 nB.out x5;have HY5:Hid (YardAt w5 (Plus Y' w0.drew) yb mb n0 c (Ts.all c f (rs.take (k+1)))):=hY5;have HO5:Hid (Only w0.drew w5 Y'):=hO5;clear hY5 hO5))
      all_goals
        go_wp2_with fail
        refine⟨⟨k+1,hlk,by go_num,?_,?_⟩,by simp[intOf];omega⟩
        · exact(hOk.out.trans (Only.of_below (S:=λ_=>False) HB0.out) λ_ h=>h.elim).trans HO5.out.drew λq hq=>.inr (HYl.out q hq)
        · have h01:=HB0.out.size
          have h02:=hOk.out.size
          refine⟨Upto Y' w0 w5,up_done (up_later HU.out HB0.out) HY5.out HO5.out.drew,λq hq=>?_⟩
          rcases hq with hq|hq
          · exact HYl.out q hq
          · omega
    · obtain rfl:k=rs.length:=by omega
      obtain⟨Y',hU,hYl⟩:=hIk.out
      rw[List.take_length] at hU
      have hA:=mAct7 Y' xb mb n0 rb yb c (Ts.all c f rs) (allB rs) 0 (.slice a An cap) wr hU (by rw[hAn];exact hLn2.out) (hF.inv hc).1
      have HU:Hid (UpIs wr Y' xb mb n0 rb yb c (Ts.all c f rs) (allB rs) false 0 (.slice a An cap)):=hU
      have HYl:Hid (∀q,Y' q->w1.heap.size<=q):=hYl
      clear hU hYl hIk
      go_wp2_with fail
      go_fit hA
      rintro e w6 ⟨rfl,hA6⟩
      have HA:Hid (Acted wr w6 Y' xb mb n0 rb yb c (Ts.all c f rs).lose (allB rs++rc7.bytes) 0 (.slice a An cap)):=hA6
      clear hA6 hA
      go_wp2_with fail
      go_ret
      obtain⟨⟨Y6,lv6,hU6,hY6,hl6⟩,hO6⟩:=HA.out
      have h1:=HBw.out.size
      have h2:=hOk.out.size
      refine⟨rfl,⟨Y6,rb,yb,lv6,hU6,Nat.le_trans h1 Hrb.out,λq hq=>?_,?_⟩,?_⟩
      · rcases hY6 q hq with h|h
        · exact Nat.le_trans h1 (HYl.out q h)
        · omega
      · rw[hneL.out]
        rcases hl6 with h|⟨g6,h,hg6⟩
        · exact .inl h
        · exact .inr ⟨g6,h,by omega⟩
      · refine((Only.of_below HBw.out).trans hOk.out λq hq=>.inl (.inl hq)).trans hO6 λq hq=>?_
        rcases hq with h|h|h
        · exact .inr (Nat.le_trans h1 (HYl.out q h))
        · exact .inl (.inl h)
        · exact .inl (.inr (by rw[hneL.out];exact h))
section
attribute [local go_sem] Oper.semAt_some
theorem yCheck3 (yb:Nat)(w:World):
    Calls prog 110 #[.pointer (some ⟨yb,0,none⟩),.agg #[.int .i64 3,.int .i64 0,.slice none 0 0,.int .i64 0,.bool false,.int .i64 0]] w λe w'=>e=.returned (.int .i64 0)/\Below w.heap.size w w':=by
  go_enter func110,ntmps110
  go_wp2_with fail
  go_ret
  exact⟨rfl,below_new _ _⟩
theorem yCheck5 (yb:Nat)(m:Int)(w:World):
    Calls prog 110 #[.pointer (some ⟨yb,0,none⟩),.agg #[.int .i64 5,.int .i64 0,.slice none 0 0,.int .i64 0,.bool false,.int .i64 m]] w λe w'=>(((1<=m/\m<=1000)/\e=.returned (.int .i64 0))\/((¬(1<=m/\m<=1000))/\e=.returned (.int .i64 7)))/\Below w.heap.size w w':=by
  by_cases h1:m<1
  · have HP:Hid (¬(1<=m/\m<=1000)):=by
      show ¬_
      omega
    generalize (1<=m/\m<=1000)=P at HP ⊢
    go_enter func110,ntmps110
    go_wp2_with fail
    go_ret
    exact⟨.inr ⟨HP.out,rfl⟩,below_new _ _⟩
  · by_cases h2:1000<m
    · have HP:Hid (¬(1<=m/\m<=1000)):=by
        show ¬_
        omega
      generalize (1<=m/\m<=1000)=P at HP ⊢
      go_enter func110,ntmps110
      go_wp2_with fail
      go_ret
      exact⟨.inr ⟨HP.out,rfl⟩,below_new _ _⟩
    · have HP:Hid (1<=m/\m<=1000):=by
        show _/\_
        omega
      generalize (1<=m/\m<=1000)=P at HP ⊢
      go_enter func110,ntmps110
      go_wp2_with fail
      go_ret
      exact⟨.inl ⟨HP.out,rfl⟩,below_new _ _⟩
theorem yCheck4 (S:Nat->Prop)(yb mb n0:Nat)(c:Cfg)(s:Ts)(num:Int)(p:Bool)(w:World)(hY:YardAt w S yb mb n0 c s)(hI:s.Inv c):
    Calls prog 110 #[.pointer (some ⟨yb,0,none⟩),.agg #[.int .i64 4,.int .i64 0,.slice none 0 0,.int .i64 0,.bool p,.int .i64 num]] w λe w'=>(((∃x∈s.segs,x.runsI num=true)/\e=.returned (.int .i64 0))\/((¬∃x∈s.segs,x.runsI num=true)/\e=.returned (.int .i64 6)))/\Below w.heap.size w w':=by
  obtain⟨q,sb,qv,ov,x,h,hx⟩:=hY
  obtain⟨tl,zs,hZ⟩:=h.z
  have hS:=tTestedI num (hZ.later (below_new w (.cells #[.int .i64 4,.int .i64 0,.slice none 0 0,.int .i64 0,.bool p,.int .i64 num] 140))) (hZ.few hI)
  unfold ptr at hS
  have HSn:Hid (zs.map Prod.snd=s.segs):=hZ.rest.train.snd
  clear h hZ hI hx
  go_enter func110,ntmps110
  go_wp2_with fail
  go_fit hS
  rintro e w1 ⟨hb1,⟨z,hz,hzr,rfl⟩|⟨hn,rfl⟩⟩
  · have HB:Hid (Below w.heap.size w w1):=(below_new _ _).trans (hb1.mono (by simp))
    have HE:Hid (∃x∈s.segs,x.runsI num=true):=⟨z.2,by rw[<-HSn.out];exact List.mem_map_of_mem hz,hzr⟩
    clear hb1 hS hz hzr
    go_wp2_with fail
    go_ret
    exact⟨.inl ⟨HE.out,rfl⟩,HB.out⟩
  · have HB:Hid (Below w.heap.size w w1):=(below_new _ _).trans (hb1.mono (by simp))
    have HE:Hid (¬∃x∈s.segs,x.runsI num=true):=λ⟨y,hy,hyr⟩=>by
      rw[<-HSn.out] at hy
      obtain⟨z,hz,rfl⟩:=List.mem_map.1 hy
      rw[hn z hz] at hyr
      cases hyr
    clear hb1 hS hn
    go_wp2_with fail
    go_ret
    exact⟨.inr ⟨HE.out,rfl⟩,HB.out⟩
end
structure Sg where
  rs:List Rc
  up:Bool
  T:List UInt8
  br:Bool
  keep:Int
def Sg.write (σ:Sg)(r:Rc):Int×Sg:=
  if σ.br=false then (0,{σ with rs:=σ.rs++[r]})
  else (8,if (r.bytes.length:Int)<=σ.keep then {σ with rs:=σ.rs++[r],up:=false,T:=[],br:=false} else {σ with up:=false,T:=r.bytes.take σ.keep.toNat,br:=false})
def Sg.act (σ:Sg)(err:Int)(r:Rc):Int×Sg:=if σ.up=false then (8,σ) else if err≠0 then (err,σ) else σ.write r
structure Sg.Ok (c:Cfg)(g:ByteArray->ByteArray)(σ:Sg):Prop where
  fits:FitsT c g σ.rs
  torn:TornOf σ.T
  upT:σ.up=true->σ.T=[]
  downB:σ.up=false->σ.br=false
theorem torn_nil:TornOf []:=⟨rc7,0,rc7_ok,by omega,by simp⟩
theorem Rc.bytes_len (r:Rc):r.bytes.length=9+r.body.length:=by rw[Rc.bytes_eq,recB_len']
theorem allB_snoc (rs:List Rc)(r:Rc):allB (rs++[r])=allB rs++r.bytes:=by simp[allB]
theorem allB_len:∀{rs:List Rc},(∀r∈rs,r.ok)->(allB rs).length<=rs.length*1009
  |[],_=>by simp[allB]
  |r::rs,h=>by
    have h1:=allB_len (rs:=rs) λx hx=>h x (List.mem_cons_of_mem _ hx)
    have h2:=Rc.body_lt (h r List.mem_cons_self)
    have h3:=r.bytes_len
    rw[allB,List.flatMap_cons,List.length_append,List.length_cons]
    have:(rs.flatMap Rc.bytes).length=(allB rs).length:=rfl
    omega
theorem Ts.Can.ok {c:Cfg}{s:Ts}{r:Rc}(hr:s.Can c r)(hc:c.Ok):r.ok:=by
  refine⟨?_,by have:=hr.num;omega⟩
  obtain⟨h1,h7⟩:=hr.kind
  by_cases e:r.kind=1
  · obtain⟨_,_,_,hl,he⟩:=hr.sub e
    exact .inl ⟨e,by have:=hc.1.2;omega,eds_small he⟩
  · omega
theorem Sg.Ok.write {c:Cfg}{g:ByteArray->ByteArray}{σ:Sg}{r:Rc}(h:σ.Ok c g)(hc:c.Ok)(hu:σ.up=true)(hr:(Ts.all c g σ.rs).Can c r):(σ.write r).2.Ok c g:=by
  unfold Sg.write
  split
  · exact⟨.snoc h.fits hr,h.torn,h.upT,λh'=>by rw[hu] at h';cases h'⟩
  · show Sg.Ok c g (if _ then _ else _)
    split
    · exact⟨.snoc h.fits hr,torn_nil,λh'=>(by cases h'),λ_=>rfl⟩
    · rename_i hk
      refine⟨h.fits,⟨r,σ.keep.toNat,hr.ok hc,?_,by rw[Rc.bytes_eq]⟩,λh'=>(by cases h'),λ_=>rfl⟩
      rw[r.bytes_len] at hk
      omega
theorem Sg.Ok.act {c:Cfg}{g:ByteArray->ByteArray}{σ:Sg}{r:Rc}{err:Int}(h:σ.Ok c g)(hc:c.Ok)(hr:err=0->(Ts.all c g σ.rs).Can c r):(σ.act err r).2.Ok c g:=by
  unfold Sg.act
  split
  · exact h
  · split
    · exact h
    · rename_i h1 h2
      exact h.write hc (by simpa using h1) (hr (by simpa using h2))
structure Grows (w w':World)(X X':Nat->Prop):Prop where
  only:Only w w' X
  sub:∀k,X' k->X k\/w.heap.size<=k
theorem Grows.of_below {w w':World}{X:Nat->Prop}(h:Below w.heap.size w w'):Grows w w' X X:=⟨Only.of_below h,λ_ h=>.inl h⟩
structure PUp (w:World)(X:Nat->Prop)(xb:Nat)(c:Cfg)(rs:List Rc)(br:Bool)(keep:Int)(n:Nat)(g:ByteArray->ByteArray):Prop where
  ex:∃mb lv Y rb yb keep',FilesMap w mb n g/\UpIs w Y xb mb n rb yb c (Ts.all c g rs) (allB rs) br keep' lv/\(br=true->keep'=keep)/\X mb/\X rb/\(∀k,Y k->X k)/\(∀q,lv.ownBlock=some q->X q)/\¬Y mb/\mb≠xb/\mb≠rb
  fx:X xb
  xl:∀k,X k->k<w.heap.size
structure PDown (w:World)(X:Nat->Prop)(xb:Nat)(c:Cfg)(rs:List Rc)(T:List UInt8)(n:Nat)(g:ByteArray->ByteArray):Prop where
  ex:∃mb lv,FilesMap w mb n g/\DownIs w xb mb c (allB rs++T) lv/\X mb/\(∀q,lv.ownBlock=some q->X q)/\mb≠xb
  fx:X xb
  xl:∀k,X k->k<w.heap.size
def ProgIs (w:World)(X:Nat->Prop)(xb:Nat)(c:Cfg)(σ:Sg)(n:Nat)(g:ByteArray->ByteArray):Prop:=
  (σ.up=true/\PUp w X xb c σ.rs σ.br σ.keep n g)\/(σ.up=false/\PDown w X xb c σ.rs σ.T n g)
theorem PUp.kept {w w':World}{X:Nat->Prop}{xb:Nat}{c:Cfg}{rs:List Rc}{br:Bool}{keep:Int}{n:Nat}{g:ByteArray->ByteArray}(h:PUp w X xb c rs br keep n g)(hs:w.heap.size<=w'.heap.size)(hk:∀k,X k->w'.heap[k]? =w.heap[k]?):PUp w' X xb c rs br keep n g:=by
  obtain⟨mb,lv,Y,rb,yb,keep',hM,hU,he,h1,h2,h3,h4,h5⟩:=h.ex
  exact⟨⟨mb,lv,Y,rb,yb,keep',hM.same (hk mb h1),⟨(hk xb h.fx).trans hU.box,(hk rb h2).trans hU.run,hU.log.kept λq hq=>hk q (h4 q hq),hU.yard.kept hs λk _ hY=>hk k (hY.elim (h3 k) λe=>by rw[e];exact h1),hU.nx,hU.nr,hU.nl,λk hY=>Nat.lt_of_lt_of_le (hU.yl k hY) hs,hU.fm.kept (hk mb h1)⟩,he,h1,h2,h3,h4,h5⟩,h.fx,λk hX=>Nat.lt_of_lt_of_le (h.xl k hX) hs⟩
theorem PDown.kept {w w':World}{X:Nat->Prop}{xb:Nat}{c:Cfg}{rs:List Rc}{T:List UInt8}{n:Nat}{g:ByteArray->ByteArray}(h:PDown w X xb c rs T n g)(hs:w.heap.size<=w'.heap.size)(hk:∀k,X k->w'.heap[k]? =w.heap[k]?):PDown w' X xb c rs T n g:=by
  obtain⟨mb,lv,hM,hD,h1,h2,h3⟩:=h.ex
  exact⟨⟨mb,lv,hM.same (hk mb h1),⟨(hk xb h.fx).trans hD.box,hD.log.kept λq hq=>hk q (h2 q hq)⟩,h1,h2,h3⟩,h.fx,λk hX=>Nat.lt_of_lt_of_le (h.xl k hX) hs⟩
theorem ProgIs.xl {w:World}{X:Nat->Prop}{xb:Nat}{c:Cfg}{σ:Sg}{n:Nat}{g:ByteArray->ByteArray}(h:ProgIs w X xb c σ n g):∀k,X k->k<w.heap.size:=by
  rcases h with ⟨_,h⟩|⟨_,h⟩
  · exact h.xl
  · exact h.xl
theorem ProgIs.kept {w w':World}{X:Nat->Prop}{xb:Nat}{c:Cfg}{σ:Sg}{n:Nat}{g:ByteArray->ByteArray}(h:ProgIs w X xb c σ n g)(hs:w.heap.size<=w'.heap.size)(hk:∀k,X k->w'.heap[k]? =w.heap[k]?):ProgIs w' X xb c σ n g:=by
  rcases h with ⟨hu,h⟩|⟨hu,h⟩
  · exact .inl ⟨hu,h.kept hs hk⟩
  · exact .inr ⟨hu,h.kept hs hk⟩
theorem ProgIs.later {w w':World}{X:Nat->Prop}{xb:Nat}{c:Cfg}{σ:Sg}{n:Nat}{g:ByteArray->ByteArray}(h:ProgIs w X xb c σ n g)(hb:Below w.heap.size w w'):ProgIs w' X xb c σ n g:=h.kept hb.size λk hk=>hb.block k (h.xl k hk)
theorem ProgIs.only {w w':World}{X S:Nat->Prop}{xb:Nat}{c:Cfg}{σ:Sg}{n:Nat}{g:ByteArray->ByteArray}(h:ProgIs w X xb c σ n g)(hO:Only w w' S)(hn:∀k,X k->¬S k):ProgIs w' X xb c σ n g:=h.kept hO.size λk hk=>hO.block k (h.xl k hk) (hn k hk)
def PDid (w w':World)(e:Ending)(X:Nat->Prop)(xb:Nat)(c:Cfg)(n:Nat)(g:ByteArray->ByteArray)(a:Int×Sg):Prop:=e=.returned (.int .i64 a.1)/\∃X',ProgIs w' X' xb c a.2 n g/\Grows w w' X X'
theorem PDid.same {w w':World}{X:Nat->Prop}{xb:Nat}{c:Cfg}{n:Nat}{g:ByteArray->ByteArray}{k:Int}{σ:Sg}(h:ProgIs w X xb c σ n g)(hb:Below w.heap.size w w'):PDid w w' (.returned (.int .i64 k)) X xb c n g (k,σ):=⟨rfl,X,h.later hb,Grows.of_below hb⟩
theorem pAct (X:Nat->Prop)(xb:Nat)(c:Cfg)(σ:Sg)(n:Nat)(g:ByteArray->ByteArray)(kind lane id num:Int)(pass:Bool)(ea:Option Addr)(en ec:Nat)(r:Rc)(err:Int)(w:World)(hP:ProgIs w X xb c σ n g)(hσ:σ.Ok c g)(hc:c.Ok)(hn:σ.rs.length<1048576)(hcan:err=0->(Ts.all c g σ.rs).Can c r)(hC:∀W Y yb mb,Below w.heap.size w W->YardAt W Y yb mb n c (Ts.all c g σ.rs)->Calls prog 110 #[.pointer (some ⟨yb,0,none⟩),.agg #[.int .i64 kind,.int .i64 lane,.slice ea en ec,.int .i64 id,.bool pass,.int .i64 num]] W λe W'=>e=.returned (.int .i64 err)/\Below W.heap.size W W')(hY:err=0->∀W,Below w.heap.size w W->Calls prog 112 #[.agg #[.int .i64 kind,.int .i64 lane,.slice ea en ec,.int .i64 id,.bool pass,.int .i64 num]] W λe W'=>∃v',e=.returned v'/\Fresh W W' v' r.bytes)(hD:err=0->∀W Y yb mb,Only w W X->YardAt W Y yb mb n c (Ts.all c g σ.rs)->Calls prog 76 #[.pointer (some ⟨yb,0,none⟩),.agg #[.int .i64 kind,.int .i64 lane,.slice ea en ec,.int .i64 id,.bool pass,.int .i64 num]] W λe W'=>e=.returned (.tuple #[])/\YardAt W' (Plus Y W) yb mb n c ((Ts.all c g σ.rs).does c r)/\Only W W' Y):
    Calls prog 73 #[.pointer (some ⟨xb,0,none⟩),.agg #[.int .i64 kind,.int .i64 lane,.slice ea en ec,.int .i64 id,.bool pass,.int .i64 num]] w λe w'=>PDid w w' e X xb c n g (σ.act err r):=by
  have hal:=allB_len (hσ.fits.ok hc)
  rcases hP with ⟨hu,hP⟩|⟨hu,hP⟩
  · have HP:ProgIs w X xb c σ n g:=.inl ⟨hu,hP⟩
    obtain⟨mb,lv,Y,rb,yb,keep',hM,hU,hke,h1,h2,h3,h4,h5,h6,h7⟩:=hP.ex
    by_cases he:err=0
    · subst he
      have hCan:=hcan rfl
      have hbl:=Rc.body_lt (hCan.ok hc)
      have hbl2:=r.bytes_len
      have keepM:∀{w':World},Only w w' (λk=>Y k\/k=xb\/lv.ownBlock=some k)->FilesMap w' mb n g:=λhO=>hM.same (hO.block mb hM.lt (λe=>by
        rcases e with e|e|e
        · exact h5 e
        · exact h6 e
        · exact hM.ne_sl hU.log e))
      have hC':∀W,Below w.heap.size w W->Calls prog 110 #[.pointer (some ⟨yb,0,none⟩),.agg #[.int .i64 kind,.int .i64 lane,.slice ea en ec,.int .i64 id,.bool pass,.int .i64 num]] W λe W'=>e=.returned (.int .i64 0)/\Below W.heap.size W W':=λW hW=>hC W Y yb mb hW (hU.yard.later hW)
      by_cases hb:σ.br=false
      · have ea':σ.act 0 r=(0,{σ with rs:=σ.rs++[r]}):=by simp[Sg.act,Sg.write,hu,hb]
        rw[ea']
        rw[hb] at hU
        refine(mAct_ok Y xb mb n rb yb c _ ((Ts.all c g σ.rs).does c r) _ r.bytes keep' lv kind lane id num pass ea en ec w hU (by omega) (by omega) hC' (hY rfl) (λW hO hYd=>hD rfl W Y yb mb (hO.mono λk hk=>?_) hYd)).mono ?_
        · rcases hk with hk|hk
          · rw[hk];exact hP.fx
          · exact h4 k hk
        · rintro e w' ⟨rfl,⟨Y',lv',hU',hYs,hls⟩,hO⟩
          have hs:=hO.size
          refine⟨rfl,Upto X w w',.inl ⟨hu,⟨⟨mb,lv',Y',rb,yb,keep',keepM hO,?_,?_,.inl h1,.inl h2,λk hk=>?_,λq hq=>?_,λh=>?_,h6,h7⟩,.inl hP.fx,?_⟩⟩,hO.mono λk hk=>?_,λk hk=>?_⟩
          · show UpIs w' Y' xb mb n rb yb c (Ts.all c g (σ.rs++[r])) (allB (σ.rs++[r])) σ.br keep' lv'
            rw[Ts.all_snoc,allB_snoc,hb];exact hU'
          · exact hke
          · rcases hYs k hk with h|h
            · exact .inl (h3 k h)
            · exact .inr ⟨h,hU'.yl k hk⟩
          · rcases hls with h|⟨q',h,hl⟩
            · rw[h] at hq;exact .inl (h4 q hq)
            · exact .inr ⟨by rw[h] at hq;cases hq;exact hl,hU'.log.lt hq⟩
          · rcases hYs mb h with h|h
            · exact h5 h
            · have:=hM.lt;omega
          · rintro k (hk|hk)
            · have:=hP.xl k hk;omega
            · exact hk.2
          · rcases hk with hk|hk|hk
            · exact h3 k hk
            · rw[hk];exact hP.fx
            · exact h4 k hk
          · exact hk.imp (λh=>h) (λh=>h.1)
      · have hb:σ.br=true:=by simpa using hb
        have hk0:=hke hb
        rw[hb] at hU
        subst hk0
        obtain⟨k,hk⟩:∃k:Nat,(k:Int)=max 0 (min σ.keep r.bytes.length):=⟨(max 0 (min σ.keep r.bytes.length)).toNat,by omega⟩
        refine(mAct_br Y xb mb n rb yb c _ _ r.bytes σ.keep lv kind lane id num pass ea en ec w hU (by omega) (by omega) hC' (hY rfl) k hk).mono ?_
        rintro e w' ⟨rfl,⟨lv',hD',hls⟩,hO⟩
        have hs:=hO.size
        have hO':Only w w' (λk=>Y k\/k=xb\/lv.ownBlock=some k):=hO.mono λk hk=>.inr hk
        have hO2:Only w w' X:=hO.mono λk hk=>by
          rcases hk with hk|hk
          · rw[hk];exact hP.fx
          · exact h4 k hk
        have lvX:∀q,lv'.ownBlock=some q->Upto X w w' q:=λq hq=>by
          rcases hls with h|⟨q',h,hl⟩
          · rw[h] at hq;exact .inl (h4 q hq)
          · exact .inr ⟨by rw[h] at hq;cases hq;exact hl,hD'.log.lt hq⟩
        have bound:∀k,Upto X w w' k->k<w'.heap.size:=by
          rintro k (hk|hk)
          · have:=hP.xl k hk;omega
          · exact hk.2
        have sub:∀k,Upto X w w' k->X k\/w.heap.size<=k:=λk hk=>hk.imp (λh=>h) (λh=>h.1)
        by_cases hkl:(r.bytes.length:Int)<=σ.keep
        · have ea':σ.act 0 r=(8,{σ with rs:=σ.rs++[r],up:=false,T:=[],br:=false}):=by simp[Sg.act,Sg.write,hu,hb,hkl]
          rw[ea']
          have hkk:k=r.bytes.length:=by omega
          rw[hkk,List.take_length] at hD'
          refine⟨rfl,Upto X w w',.inr ⟨rfl,⟨⟨mb,lv',keepM hO',?_,.inl h1,lvX,h6⟩,.inl hP.fx,bound⟩⟩,hO2,sub⟩
          show DownIs w' xb mb c (allB (σ.rs++[r])++[]) lv'
          rw[allB_snoc,List.append_nil];exact hD'
        · have ea':σ.act 0 r=(8,{σ with up:=false,T:=r.bytes.take σ.keep.toNat,br:=false}):=by simp[Sg.act,Sg.write,hu,hb,hkl]
          rw[ea']
          have hkk:k=σ.keep.toNat:=by omega
          rw[hkk] at hD'
          exact⟨rfl,Upto X w w',.inr ⟨rfl,⟨⟨mb,lv',keepM hO',hD',.inl h1,lvX,h6⟩,.inl hP.fx,bound⟩⟩,hO2,sub⟩
    · have ea':σ.act err r=(err,σ):=by simp[Sg.act,hu,he]
      rw[ea']
      refine(mAct_no Y xb mb n rb yb c _ _ σ.br keep' lv kind lane id num pass ea en ec err he w hU (λW hW=>hC W Y yb mb hW (hU.yard.later hW))).mono ?_
      rintro e w' ⟨rfl,hb⟩
      exact .same HP hb
  · have ea':σ.act err r=(8,σ):=by simp[Sg.act,hu]
    rw[ea']
    have HP:ProgIs w X xb c σ n g:=.inr ⟨hu,hP⟩
    obtain⟨mb,lv,hM,hDn,_⟩:=hP.ex
    refine(mAct_down xb mb c _ lv kind lane id num pass ea en ec w hDn).mono ?_
    rintro e w' ⟨rfl,hb⟩
    exact .same HP hb
end Go.Proofs.YtgamgomepdfgdaaGreat
