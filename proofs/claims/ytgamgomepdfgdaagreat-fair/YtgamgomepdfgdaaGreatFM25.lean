import Derived.Deep.LoopGhost
import Derived.Test.YtgamgomepdfgdaaGreatFM23
import Derived.Test.YtgamgomepdfgdaaGreatFM24
set_option maxRecDepth 100000
set_option maxHeartbeats 8000000
namespace Go.Proofs.YtgamgomepdfgdaaGreat
open Go.RowKit Go.Proofs.Tryz
section
attribute [local go_sem] Oper.semAt_some
theorem tBegun {S:Nat->Prop}{yb mb n0:Nat}{c:Cfg}{s:Ts}{w:World}(h:YardAt w S yb mb n0 c s)(hI:s.Inv c)(hc:c.Ok)(hi:s.ids.length<1048575000)(h0:n0<1048576000)(hbg:s.begun<1048576000)(hnw:s.now<1048576000):
    Calls prog 172 #[ptr yb] w λe w'=>e=.returned (.tuple #[])/\GoneTo w w' S yb mb n0 c (s.begin c):=by
  obtain⟨q,sb,qv,ov,x,h,hx⟩:=h
  refine(tBegin h hx hI hc hi h0 hbg hnw).mono ?_
  rintro e w' ⟨rfl,hY,hO⟩
  exact⟨rfl,hY,OnlyT.mono hO (λ_ h=>h) (by decide)⟩
theorem GoneTo.two {w w1 w2:World}{S:Nat->Prop}{yb mb n0:Nat}{c:Cfg}{s s':Ts}(h:GoneTo w w1 S yb mb n0 c s)(h2:GoneTo w1 w2 (Plus S w) yb mb n0 c s'):GoneTo w w2 S yb mb n0 c s':=by
  obtain⟨q,sb,qv,ov,x,hY,hx⟩:=h2.1
  have hn:=h.1.nm.1
  exact⟨⟨q,sb,qv,ov,x,hY.mono (Plus.two h.2.size) hn,hx⟩,OnlyT.mono (OnlyT.trans h.2 h2.2 λ_ h=>h) (λ_ h=>h) (by decide)⟩
theorem run_none {c:Cfg}{s:Ts}(h:s.step c=none):∀n,s.run c n=s
  |0=>rfl
  |n+1=>by
    unfold Ts.run
    rw[h]
theorem tPump {S:Nat->Prop}{yb mb n0:Nat}{c:Cfg}{s:Ts}{w:World}(h:YardAt w S yb mb n0 c s)(hI:s.Inv c)(hc:c.Ok)(hi:s.ids.length<1048575000)(h0:n0<1048576000)(hbg:s.begun<1048576000)(hnw:s.now<1048576000):
    Calls prog 117 #[ptr yb] w λe w'=>e=.returned (.tuple #[])/\GoneTo w w' S yb mb n0 c (s.pump c):=by
  have HG:Hid (∀(W:World) (s':Ts),YardAt W (Plus S w) yb mb n0 c s'->s'.Inv c->s'.ids.length<1048575000->Calls prog 171 #[.pointer (some ⟨yb,0,none⟩)] W λe w'=>e=.returned (.bool (s'.step c).isSome)/\GoneTo W w' (Plus S w) yb mb n0 c ((s'.step c).getD s')):=λW s' h1 h2 h3=>tGoOn h1 h2 hc h3 h0
  have HBg:Hid (∀(W:World) (s':Ts),YardAt W (Plus S w) yb mb n0 c s'->s'.Inv c->s'.ids.length<1048575000->s'.begun<1048576000->s'.now<1048576000->Calls prog 172 #[.pointer (some ⟨yb,0,none⟩)] W λe w'=>e=.returned (.tuple #[])/\GoneTo W w' (Plus S w) yb mb n0 c (s'.begin c)):=λW s' h1 h2 h3 h4 h5=>tBegun h1 h2 hc h3 h0 h4 h5
  have HS:Hid (∃s',s'.mu=s.mu/\GoneTo w w S yb mb n0 c s'/\s'.Inv c/\(s'.ids=s.ids/\s'.begun=s.begun/\s'.now=s.now)/\s'.run c s'.mu=s.run c s.mu):=by
    obtain⟨q,sb,qv,ov,x,hY,hx⟩:=h
    exact⟨s,rfl,⟨⟨q,sb,qv,ov,x,hY.mono (Plus.old w) hY.np,hx⟩,OnlyT.refl _ _ _⟩,hI,⟨rfl,rfl,rfl⟩,rfl⟩
  clear h hI
  unfold ptr
  go_enter func117,ntmps117
  go_wp2_with fail
  go_loopg [] s.mu (λn wr=>Hid (∃s',s'.mu=n/\GoneTo w wr S yb mb n0 c s'/\s'.Inv c/\(s'.ids=s.ids/\s'.begun=s.begun/\s'.now=s.now)/\s'.run c s'.mu=s.run c s.mu))
  case atStart=>exact HS.out
  case round=>
    obtain⟨s',hm,hG,hI',hids,hrun⟩:=hrel.out
    have hg:=HG.out wr s' hG.1 hI' (by rw[hids.1];exact hi)
    have HG1:Hid (GoneTo w wr S yb mb n0 c s'):=hG
    have HI1:Hid (s'.Inv c):=hI'
    have HRun:Hid (s'.run c s'.mu=s.run c s.mu):=hrun
    have HIds:Hid (s'.ids=s.ids/\s'.begun=s.begun/\s'.now=s.now):=hids
    have HMu:Hid (s'.mu=gk):=hm
    clear hrel HS hG hI' hids hrun hm
    cases hst:s'.step c with
    |none=>
      rw[hst] at hg
      have HE:Hid (s'.begin c=s.pump c):=by
        show _=_
        unfold Ts.pump
        rw[<-HRun.out,run_none hst]
      clear hst
      go_wp2_with fail
      go_fit hg
      rintro e w2 ⟨rfl,hG2⟩
      have hG3:GoneTo w w2 S yb mb n0 c s':=GoneTo.two HG1.out hG2
      have hb:=HBg.out w2 s' hG3.1 HI1.out (by rw[HIds.out.1];exact hi) (by rw[HIds.out.2.1];exact hbg) (by rw[HIds.out.2.2];exact hnw)
      have HG3:Hid (GoneTo w w2 S yb mb n0 c s'):=hG3
      clear hg hG2 hG3
      go_wp2_with fail
      go_fit hb
      rintro e w3 ⟨rfl,hG4⟩
      have HG5:Hid (GoneTo w w3 S yb mb n0 c (s.pump c)):=by
        have:=GoneTo.two HG3.out hG4
        rwa [HE.out] at this
      clear hb hG4
      go_wp2_with fail
      go_end0
      exact⟨rfl,HG5.out⟩
    |some s2=>
      rw[hst] at hg
      have hgo:=HI1.out.goes hc hst
      have hsm:=Ts.step_same hst
      have hrs:=HI1.out.run_step hc hst
      have HI2:Hid (s2.Inv c/\s2.mu<gk/\(s2.ids=s.ids/\s2.begun=s.begun/\s2.now=s.now)/\s2.run c s2.mu=s.run c s.mu):=⟨hgo.1,by rw[<-HMu.out];exact hgo.2,⟨hsm.1.trans HIds.out.1,hsm.2.1.trans HIds.out.2.1,hsm.2.2.1.trans HIds.out.2.2⟩,hrs.symm.trans HRun.out⟩
      clear hst hgo hsm hrs
      go_wp2_with fail
      go_fit hg
      rintro e w2 ⟨rfl,hG2⟩
      have HG3:Hid (GoneTo w w2 S yb mb n0 c s2):=GoneTo.two HG1.out hG2
      clear hg hG2
      go_wp2_with fail
      go_roundg s2.mu
      case rel=>exact⟨s2,rfl,HG3.out,HI2.out.1,HI2.out.2.2.1,HI2.out.2.2.2⟩
      case measure=>exact HI2.out.2.1
end
section
attribute [local go_sem] Oper.semAt_some
theorem YardZ.at {w:World}{S:Nat->Prop}{yb mb n0:Nat}{c:Cfg}{s:Ts}{q:List Pw}{sb:Nat}{qv ov:Value}{x:Xt}{tl:List Tp}{zs:List (Nat×Sm)}(h:YardZ w S yb mb n0 c s q sb qv ov x tl zs)(hx:x.n<=n0+4*s.outs.length):YardAt w S yb mb n0 c s:=⟨q,sb,qv,ov,x,h.is,hx⟩
theorem YardZ.few {w:World}{S:Nat->Prop}{yb mb n0:Nat}{c:Cfg}{s:Ts}{q:List Pw}{sb:Nat}{qv ov:Value}{x:Xt}{tl:List Tp}{zs:List (Nat×Sm)}(h:YardZ w S yb mb n0 c s q sb qv ov x tl zs)(hI:s.Inv c):zs.length<=8:=by
  have h1:=seg_count hI.sm
  have h2:=hI.tr
  have h3:(zs.map Prod.snd).length=s.segs.length:=by rw[h.rest.train.snd]
  rw[List.length_map] at h3
  omega
theorem YardZ.sm {w:World}{S:Nat->Prop}{yb mb n0:Nat}{c:Cfg}{s:Ts}{q:List Pw}{sb:Nat}{qv ov:Value}{x:Xt}{tl:List Tp}{zs:List (Nat×Sm)}(h:YardZ w S yb mb n0 c s q sb qv ov x tl zs)(hI:s.Inv c):∀z∈zs,SmOk c s.begun s.now z.2:=λz hz=>hI.sm z.2 (by rw[<-h.rest.train.snd];exact List.mem_map_of_mem hz)
theorem jobs_one:∀{zs:List (Nat×Sm)},(zs.map Prod.snd).Pairwise JobsNe->∀{z z':Nat×Sm} {n:Nat},z∈zs->z'∈zs->z.2.runs n=true->z'.2.runs n=true->z=z'
  |[],_,_,_,_,h,_,_,_=>by cases h
  |a::l,hp,z,z',n,h1,h2,r1,r2=>by
    rw[List.map_cons,List.pairwise_cons] at hp
    obtain⟨j,ej,hj⟩:=(Sm.runs_iff _ _).1 r1
    obtain⟨k,ek,hk⟩:=(Sm.runs_iff _ _).1 r2
    rcases List.mem_cons.1 h1 with rfl|h3
    · rcases List.mem_cons.1 h2 with rfl|h4
      · rfl
      · exact absurd (hj.trans hk.symm) (hp.1 z'.2 (List.mem_map_of_mem h4) j k ej ek)
    · rcases List.mem_cons.1 h2 with rfl|h4
      · exact absurd (hk.trans hj.symm) (hp.1 z.2 (List.mem_map_of_mem h3) k j ek ej)
      · exact jobs_one hp.2 h3 h4 r1 r2
theorem yDo3 (S:Nat->Prop)(yb mb n0:Nat)(l i q:Int)(ea:Option Addr)(en ec:Nat)(p:Bool)(c:Cfg)(s:Ts)(w:World)(hY:YardAt w S yb mb n0 c s)(hI:s.Inv c)(hc:c.Ok)(hi:s.ids.length<1048575000)(h0:n0<1048576000)(hbg:s.begun<1048576000)(hnw:s.now<1048576000):
    Calls prog 76 #[.pointer (some ⟨yb,0,none⟩),.agg #[.int .i64 3,.int .i64 l,.slice ea en ec,.int .i64 i,.bool p,.int .i64 q]] w λe w'=>e=.returned (.tuple #[])/\YardAt w' (Plus S w) yb mb n0 c (s.pump c)/\Only w w' S:=by
  have hS:=tPump (hY.later (below_new w (.cells #[.int .i64 3,.int .i64 l,.slice ea en ec,.int .i64 i,.bool p,.int .i64 q] 140))) hI hc hi h0 hbg hnw
  have hnm:¬Plus S w mb:=Plus.not hY.nm.1 hY.nm.2
  unfold ptr at hS
  clear hY hI
  go_enter func76,ntmps76
  go_wp2_with fail
  go_fit hS
  rintro e w1 ⟨rfl,hY1,hO1⟩
  have HY:Hid _:=hY1
  have HO:Hid (Only w w1 S):=Only.from_new hO1.only
  clear hY1 hO1 hS
  go_wp2_with fail
  exact bodyPost_end (v:=.tuple #[]) (results_none (by kernel_rfl) _ _ _) rfl ⟨rfl,YardAt.mono HY.out Plus.from_new hnm,HO.out⟩
def ansOne (num:Nat)(pass:Bool)(x:Sm):Sm:=if x.runs num then x.ends pass num else x
theorem ans_done {w W:World}{S:Nat->Prop}{yb mb n0:Nat}{c:Cfg}{s:Ts}{q:List Pw}{sb:Nat}{qv ov:Value}{x:Xt}{tl:List Tp}{zs:List (Nat×Sm)}{num:Nat}{pass:Bool}{z:Nat×Sm}(h:YardZ w S yb mb n0 c s q sb qv ov x tl zs)(hI:s.Inv c)(hz:z∈zs)(hr:z.2.runs num=true)(hO:Only w W (λk=>k=z.1))(hS:SegAt W S (s.top n0) (z.1,z.2.ends pass num)):
    (∃zs',YardZ W S yb mb n0 c (s.answer num pass) q sb qv ov x tl zs')/\OnlyT w W S [240]:=by
  have e:ansOne num pass z.2=z.2.ends pass num:=if_pos hr
  have hE:=(EachIs.start (f:=ansOne num pass) h.rest.train.segs (Below.refl _ w)).step h.rest.train.nd hz hO (by rw[e];exact hS)
  have hE2:EachIs w W S (s.top n0) zs (ansOne num pass) (zs.map Prod.fst):=⟨hE.1,λz' hz'=>by
    have:=hE.2 z' hz'
    rw[if_pos (List.mem_map_of_mem hz')]
    by_cases e1:z'.1=z.1
    · simpa[e1] using this
    · have e2:ansOne num pass z'.2=z'.2:=if_neg λhr'=>e1 (by rw[jobs_one (by rw[h.rest.train.snd];exact hI.jobs) hz' hz hr' hr])
      rw[e2]
      simpa[e1] using this⟩
  exact⟨⟨_,hE2.done h⟩,hE2.1⟩
theorem ans_none {w:World}{S:Nat->Prop}{yb mb n0:Nat}{c:Cfg}{s:Ts}{q:List Pw}{sb:Nat}{qv ov:Value}{x:Xt}{tl:List Tp}{zs:List (Nat×Sm)}{num:Nat}{pass:Bool}(h:YardZ w S yb mb n0 c s q sb qv ov x tl zs)(hn:∀z∈zs,z.2.runs num=false):s.answer num pass=s:=by
  have:(s.segs.map λx=>if x.runs num then x.ends pass num else x)=s.segs:=by
    rw[<-h.rest.train.snd,List.map_map]
    refine List.map_congr_left λz hz=>?_
    simp[hn z hz]
  unfold Ts.answer
  rw[this]
theorem yDo4 (S:Nat->Prop)(yb mb n0 num:Nat)(l i:Int)(ea:Option Addr)(en ec:Nat)(p:Bool)(c:Cfg)(s:Ts)(w:World)(hY:YardAt w S yb mb n0 c s)(hI:s.Inv c)(hc:c.Ok):
    Calls prog 76 #[.pointer (some ⟨yb,0,none⟩),.agg #[.int .i64 4,.int .i64 l,.slice ea en ec,.int .i64 i,.bool p,.int .i64 num]] w λe w'=>e=.returned (.tuple #[])/\YardAt w' (Plus S w) yb mb n0 c (s.answer num p)/\Only w w' S:=by
  have hnm:¬Plus S w mb:=Plus.not hY.nm.1 hY.nm.2
  obtain⟨q,sb,qv,ov,x,h,hx⟩:=hY
  obtain⟨tl,zs,hZ⟩:=h.z
  have hS:=tTested num (hZ.later (below_new w (.cells #[.int .i64 4,.int .i64 l,.slice ea en ec,.int .i64 i,.bool p,.int .i64 num] 140))) (hZ.few hI)
  unfold ptr at hS
  have HX:Hid (x.n<=n0+4*s.outs.length):=hx
  have HZ:Hid (YardZ w S yb mb n0 c s q sb qv ov x tl zs):=hZ
  have HI:Hid (s.Inv c):=hI
  have HR:Hid (∀z∈zs,z.2.fails<1048576000):=λz hz=>by
    have h1:=hZ.sm hI z hz
    have h2:=hc.2.2.2.2.1
    have:=h1.fails
    omega
  have HB0:Hid (Below w.heap.size w (w.alloc (.cells #[.int .i64 4,.int .i64 l,.slice ea en ec,.int .i64 i,.bool p,.int .i64 num] 140))):=below_new _ _
  have HRB:Hid (Bx (w.alloc (.cells #[.int .i64 4,.int .i64 l,.slice ea en ec,.int .i64 i,.bool p,.int .i64 num] 140)) w.heap.size 140 #[.int .i64 4,.int .i64 l,.slice ea en ec,.int .i64 i,.bool p,.int .i64 num]):=Bx.new _ _ _
  clear h hZ hI hc hx
  go_enter func76,ntmps76
  go_wp2_with fail
  go_fit hS
  rintro e w1 ⟨hb1,⟨z,hz,hzr,rfl⟩|⟨hn,rfl⟩⟩
  · have HB1:Hid (Below w.heap.size w w1):=HB0.out.trans (hb1.mono HB0.out.size)
    have hrb:Bx w1 w.heap.size 140 #[.int .i64 4,.int .i64 l,.slice ea en ec,.int .i64 i,.bool p,.int .i64 num]:=(hb1.block _ HRB.out.lt).trans HRB.out
    have r4:=hrb.cell (i:=4) rfl
    have HZ1:Hid (YardZ w1 S yb mb n0 c s q sb qv ov x tl zs):=HZ.out.later HB1.out
    obtain⟨cv,jv,cl,hseg⟩:=HZ1.out.rest.train.segs z hz
    obtain⟨j,ej,hj⟩:=(Sm.runs_iff _ _).1 hzr
    obtain⟨jb,jt,jfl,rfl,hJ,-,-,-,-,-⟩:JobIs w1 S (s.top n0) jv (some j):=ej▸hseg.job
    have HS1:Hid (SegIs w1 S (s.top n0) z.1 z.2 cv (ptr jb) cl):=hseg
    have HZz:Hid (z∈zs/\z.2.runs num=true):=⟨hz,hzr⟩
    have key:Calls prog 119 #[.pointer (some ⟨z.1,0,none⟩),.bool p] w1 λe w'=>e=.returned (.tuple #[])/\Only w1 w' (λk=>k=z.1)/\SegAt w' S (s.top n0) (z.1,z.2.ends p num):=by
      have fin:∀w' (f' b':Nat),Only w1 w' (λk=>k=z.1)->Bx w' z.1 240 (segCells cv f' b' (.pointer none))->SegAt w' S (s.top n0) (z.1,{z.2 with fails:=f',by_:=b',job:=none}):=λw' f' b' hO hB=>by
        have O:OnlyT w1 w' S [240]:=OnlyT.mk hO λk _ e=>by
          subst e
          exact⟨HS1.out.own,240,by simp,HS1.out.box.ty⟩
        exact⟨cv,.pointer none,cl,hB,HS1.out.chs.keptT O.k (λ_ h=>h) (by decide) (by decide),rfl,HS1.out.own⟩
      cases p with
      |true=>
        refine(segEnd_pass z.1 jb num z.2.fails z.2.by_ cv _ w1 HS1.out.box hJ (by rw[<-hj];rfl)).mono ?_
        rintro e w' ⟨rfl,hB,hO⟩
        exact⟨rfl,hO,fin w' z.2.fails num hO hB⟩
      |false=>
        refine(segEnd_fail z.1 z.2.fails z.2.by_ cv (ptr jb) w1 HS1.out.box (HR.out z hz)).mono ?_
        rintro e w' ⟨rfl,hB,hO⟩
        exact⟨rfl,hO,fin w' (z.2.fails+1) z.2.by_ hO hB⟩
    clear hseg hJ hb1 hS hrb hz hzr ej hj
    go_wp2_with fail
    go_fit key
    rintro e w2 ⟨rfl,hO2,hS2⟩
    have hA:=ans_done (pass:=p) HZ1.out HI.out HZz.out.1 HZz.out.2 hO2 hS2
    have HY:Hid (YardAt w2 S yb mb n0 c (s.answer num p)):=by
      obtain⟨⟨zs',hY'⟩,-⟩:=hA
      exact hY'.at HX.out
    have HO:Hid (Only w w2 S):=(OnlyT.trans (ts:=[]) (OnlyT.below HB1.out) hA.2 (Plus.old w)).only
    clear hA hO2 hS2 key r4
    go_wp2_with fail
    exact bodyPost_end (v:=.tuple #[]) (results_none (by kernel_rfl) _ _ _) rfl ⟨rfl,YardAt.mono HY.out (Plus.old w) hnm,HO.out⟩
  · have HB1:Hid (Below w.heap.size w w1):=HB0.out.trans (hb1.mono HB0.out.size)
    have HY:Hid (YardAt w1 S yb mb n0 c (s.answer num p)):=by
      have:=HZ.out.later HB1.out
      rw[ans_none this hn]
      exact this.at HX.out
    clear hb1 hS hn
    go_wp2_with fail
    exact bodyPost_end (v:=.tuple #[]) (results_none (by kernel_rfl) _ _ _) rfl ⟨rfl,YardAt.mono HY.out (Plus.old w) hnm,(OnlyT.below (ts:=[]) HB1.out).only⟩
theorem eds_small {es:List Ed}(h:EditsOK es):Small es:=by
  refine⟨h.2.1,λx hx=>?_⟩
  have:=h.2.2.1 x hx
  simp[okEd,okEdit,okFill,okText] at this
  omega
end
def rc7:Rc:=⟨7,0,0,false,[]⟩
theorem rc7_ok:rc7.ok:=⟨.inr (.inr (.inr (.inr (.inr (.inl rfl))))),by decide⟩
theorem FitsT.ok {c:Cfg}{g:ByteArray->ByteArray}{rs:List Rc}(h:FitsT c g rs)(hc:c.Ok):∀r∈rs,r.ok:=λr hm=>by
  obtain⟨k,hk,rfl⟩:=List.mem_iff_getElem.1 hm
  have hr:=h k hk
  refine⟨?_,by have:=hr.num;omega⟩
  obtain⟨h1,h7⟩:=hr.kind
  by_cases e:rs[k].kind=1
  · obtain⟨_,_,_,hl,he⟩:=hr.sub e
    exact .inl ⟨e,by have:=hc.1.2;omega,eds_small he⟩
  · omega
section
attribute [local go_sem] Oper.semAt_some
theorem yCheck3 (yb:Nat)(w:World):
    Calls prog 110 #[.pointer (some ⟨yb,0,none⟩),.agg #[.int .i64 3,.int .i64 0,.slice none 0 0,.int .i64 0,.bool false,.int .i64 0]] w λe w'=>e=.returned (.int .i64 0)/\Below w.heap.size w w':=by
  go_enter func110,ntmps110
  go_wp2_with fail
  go_ret
  exact⟨rfl,below_new _ _⟩
theorem yCheck4 (S:Nat->Prop)(yb mb n0:Nat)(c:Cfg)(s:Ts)(num:Int)(p:Bool)(w:World)(hY:YardAt w S yb mb n0 c s)(hI:s.Inv c):
    Calls prog 110 #[.pointer (some ⟨yb,0,none⟩),.agg #[.int .i64 4,.int .i64 0,.slice none 0 0,.int .i64 0,.bool p,.int .i64 num]] w λe w'=>(((∃x∈s.segs,x.runsI num=true)/\e=.returned (.int .i64 0))\/((¬∃x∈s.segs,x.runsI num=true)/\e=.returned (.int .i64 6)))/\Below w.heap.size w w':=by
  obtain⟨q,sb,qv,ov,x,h,hx⟩:=hY
  obtain⟨tl,zs,hZ⟩:=h.z
  have hS:=tTestedI num (hZ.later (below_new w (.cells #[.int .i64 4,.int .i64 0,.slice none 0 0,.int .i64 0,.bool p,.int .i64 num] 140))) (hZ.few hI)
  unfold ptr at hS
  have HSn:Hid (zs.map Prod.snd=s.segs):=hZ.rest.train.snd
  clear h hZ hI hx
  go_enter func110,ntmps110
  go_wp2_with fail
  go_fit hS
  rintro e w1 ⟨hb1,⟨z,hz,hzr,rfl⟩|⟨hn,rfl⟩⟩
  · have HB:Hid (Below w.heap.size w w1):=(below_new _ _).trans (hb1.mono (by simp))
    have HE:Hid (∃x∈s.segs,x.runsI num=true):=⟨z.2,by rw[<-HSn.out];exact List.mem_map_of_mem hz,hzr⟩
    clear hb1 hS hz hzr
    go_wp2_with fail
    go_ret
    exact⟨.inl ⟨HE.out,rfl⟩,HB.out⟩
  · have HB:Hid (Below w.heap.size w w1):=(below_new _ _).trans (hb1.mono (by simp))
    have HE:Hid (¬∃x∈s.segs,x.runsI num=true):=λ⟨y,hy,hyr⟩=>by
      rw[<-HSn.out] at hy
      obtain⟨z,hz,rfl⟩:=List.mem_map.1 hy
      rw[hn z hz] at hyr
      cases hyr
    clear hb1 hS hn
    go_wp2_with fail
    go_ret
    exact⟨.inr ⟨HE.out,rfl⟩,HB.out⟩
end
structure Sg where
  rs:List Rc
  up:Bool
  T:List UInt8
  br:Bool
  keep:Int
def Sg.write (σ:Sg)(r:Rc):Int×Sg:=
  if σ.br=false then (0,{σ with rs:=σ.rs++[r]})
  else (8,if (r.bytes.length:Int)<=σ.keep then {σ with rs:=σ.rs++[r],up:=false,T:=[],br:=false} else {σ with up:=false,T:=r.bytes.take σ.keep.toNat,br:=false})
def Sg.act (σ:Sg)(err:Int)(r:Rc):Int×Sg:=if σ.up=false then (8,σ) else if err≠0 then (err,σ) else σ.write r
structure Sg.Ok (c:Cfg)(g:ByteArray->ByteArray)(σ:Sg):Prop where
  fits:FitsT c g σ.rs
  torn:TornOf σ.T
  upT:σ.up=true->σ.T=[]
  downB:σ.up=false->σ.br=false
theorem torn_nil:TornOf []:=⟨rc7,0,rc7_ok,by omega,by simp⟩
theorem Rc.bytes_len (r:Rc):r.bytes.length=9+r.body.length:=by rw[Rc.bytes_eq,recB_len']
theorem allB_snoc (rs:List Rc)(r:Rc):allB (rs++[r])=allB rs++r.bytes:=by simp[allB]
theorem allB_len:∀{rs:List Rc},(∀r∈rs,r.ok)->(allB rs).length<=rs.length*1009
  |[],_=>by simp[allB]
  |r::rs,h=>by
    have h1:=allB_len (rs:=rs) λx hx=>h x (List.mem_cons_of_mem _ hx)
    have h2:=Rc.body_lt (h r List.mem_cons_self)
    have h3:=r.bytes_len
    rw[allB,List.flatMap_cons,List.length_append,List.length_cons]
    have:(rs.flatMap Rc.bytes).length=(allB rs).length:=rfl
    omega
theorem Ts.Can.ok {c:Cfg}{s:Ts}{r:Rc}(hr:s.Can c r)(hc:c.Ok):r.ok:=by
  refine⟨?_,by have:=hr.num;omega⟩
  obtain⟨h1,h7⟩:=hr.kind
  by_cases e:r.kind=1
  · obtain⟨_,_,_,hl,he⟩:=hr.sub e
    exact .inl ⟨e,by have:=hc.1.2;omega,eds_small he⟩
  · omega
theorem Sg.Ok.write {c:Cfg}{g:ByteArray->ByteArray}{σ:Sg}{r:Rc}(h:σ.Ok c g)(hc:c.Ok)(hu:σ.up=true)(hr:(Ts.all c g σ.rs).Can c r):(σ.write r).2.Ok c g:=by
  unfold Sg.write
  split
  · exact⟨.snoc h.fits hr,h.torn,h.upT,λh'=>by rw[hu] at h';cases h'⟩
  · show Sg.Ok c g (if _ then _ else _)
    split
    · exact⟨.snoc h.fits hr,torn_nil,λh'=>(by cases h'),λ_=>rfl⟩
    · rename_i hk
      refine⟨h.fits,⟨r,σ.keep.toNat,hr.ok hc,?_,by rw[Rc.bytes_eq]⟩,λh'=>(by cases h'),λ_=>rfl⟩
      rw[r.bytes_len] at hk
      omega
theorem Sg.Ok.act {c:Cfg}{g:ByteArray->ByteArray}{σ:Sg}{r:Rc}{err:Int}(h:σ.Ok c g)(hc:c.Ok)(hr:err=0->(Ts.all c g σ.rs).Can c r):(σ.act err r).2.Ok c g:=by
  unfold Sg.act
  split
  · exact h
  · split
    · exact h
    · rename_i h1 h2
      exact h.write hc (by simpa using h1) (hr (by simpa using h2))
structure Grows (w w':World)(X X':Nat->Prop):Prop where
  only:Only w w' X
  sub:∀k,X' k->X k\/w.heap.size<=k
theorem Grows.of_below {w w':World}{X:Nat->Prop}(h:Below w.heap.size w w'):Grows w w' X X:=⟨Only.of_below h,λ_ h=>.inl h⟩
structure PUp (w:World)(X:Nat->Prop)(xb:Nat)(c:Cfg)(rs:List Rc)(br:Bool)(keep:Int)(n:Nat)(g:ByteArray->ByteArray):Prop where
  ex:∃mb lv Y rb yb keep',FilesMap w mb n g/\UpIs w Y xb mb n rb yb c (Ts.all c g rs) (allB rs) br keep' lv/\(br=true->keep'=keep)/\X mb/\X rb/\(∀k,Y k->X k)/\(∀q,lv.ownBlock=some q->X q)/\¬Y mb/\mb≠xb/\mb≠rb
  fx:X xb
  xl:∀k,X k->k<w.heap.size
structure PDown (w:World)(X:Nat->Prop)(xb:Nat)(c:Cfg)(rs:List Rc)(T:List UInt8)(n:Nat)(g:ByteArray->ByteArray):Prop where
  ex:∃mb lv,FilesMap w mb n g/\DownIs w xb mb c (allB rs++T) lv/\X mb/\(∀q,lv.ownBlock=some q->X q)/\mb≠xb
  fx:X xb
  xl:∀k,X k->k<w.heap.size
def ProgIs (w:World)(X:Nat->Prop)(xb:Nat)(c:Cfg)(σ:Sg)(n:Nat)(g:ByteArray->ByteArray):Prop:=
  (σ.up=true/\PUp w X xb c σ.rs σ.br σ.keep n g)\/(σ.up=false/\PDown w X xb c σ.rs σ.T n g)
theorem PUp.kept {w w':World}{X:Nat->Prop}{xb:Nat}{c:Cfg}{rs:List Rc}{br:Bool}{keep:Int}{n:Nat}{g:ByteArray->ByteArray}(h:PUp w X xb c rs br keep n g)(hs:w.heap.size<=w'.heap.size)(hk:∀k,X k->w'.heap[k]? =w.heap[k]?):PUp w' X xb c rs br keep n g:=by
  obtain⟨mb,lv,Y,rb,yb,keep',hM,hU,he,h1,h2,h3,h4,h5⟩:=h.ex
  exact⟨⟨mb,lv,Y,rb,yb,keep',hM.same (hk mb h1),⟨(hk xb h.fx).trans hU.box,(hk rb h2).trans hU.run,hU.log.kept λq hq=>hk q (h4 q hq),hU.yard.kept hs λk _ hY=>hk k (hY.elim (h3 k) λe=>by rw[e];exact h1),hU.nx,hU.nr,hU.nl,λk hY=>Nat.lt_of_lt_of_le (hU.yl k hY) hs,hU.fm.kept (hk mb h1)⟩,he,h1,h2,h3,h4,h5⟩,h.fx,λk hX=>Nat.lt_of_lt_of_le (h.xl k hX) hs⟩
theorem PDown.kept {w w':World}{X:Nat->Prop}{xb:Nat}{c:Cfg}{rs:List Rc}{T:List UInt8}{n:Nat}{g:ByteArray->ByteArray}(h:PDown w X xb c rs T n g)(hs:w.heap.size<=w'.heap.size)(hk:∀k,X k->w'.heap[k]? =w.heap[k]?):PDown w' X xb c rs T n g:=by
  obtain⟨mb,lv,hM,hD,h1,h2,h3⟩:=h.ex
  exact⟨⟨mb,lv,hM.same (hk mb h1),⟨(hk xb h.fx).trans hD.box,hD.log.kept λq hq=>hk q (h2 q hq)⟩,h1,h2,h3⟩,h.fx,λk hX=>Nat.lt_of_lt_of_le (h.xl k hX) hs⟩
theorem ProgIs.xl {w:World}{X:Nat->Prop}{xb:Nat}{c:Cfg}{σ:Sg}{n:Nat}{g:ByteArray->ByteArray}(h:ProgIs w X xb c σ n g):∀k,X k->k<w.heap.size:=by
  rcases h with ⟨_,h⟩|⟨_,h⟩
  · exact h.xl
  · exact h.xl
theorem ProgIs.kept {w w':World}{X:Nat->Prop}{xb:Nat}{c:Cfg}{σ:Sg}{n:Nat}{g:ByteArray->ByteArray}(h:ProgIs w X xb c σ n g)(hs:w.heap.size<=w'.heap.size)(hk:∀k,X k->w'.heap[k]? =w.heap[k]?):ProgIs w' X xb c σ n g:=by
  rcases h with ⟨hu,h⟩|⟨hu,h⟩
  · exact .inl ⟨hu,h.kept hs hk⟩
  · exact .inr ⟨hu,h.kept hs hk⟩
theorem ProgIs.later {w w':World}{X:Nat->Prop}{xb:Nat}{c:Cfg}{σ:Sg}{n:Nat}{g:ByteArray->ByteArray}(h:ProgIs w X xb c σ n g)(hb:Below w.heap.size w w'):ProgIs w' X xb c σ n g:=h.kept hb.size λk hk=>hb.block k (h.xl k hk)
theorem ProgIs.only {w w':World}{X S:Nat->Prop}{xb:Nat}{c:Cfg}{σ:Sg}{n:Nat}{g:ByteArray->ByteArray}(h:ProgIs w X xb c σ n g)(hO:Only w w' S)(hn:∀k,X k->¬S k):ProgIs w' X xb c σ n g:=h.kept hO.size λk hk=>hO.block k (h.xl k hk) (hn k hk)
def PDid (w w':World)(e:Ending)(X:Nat->Prop)(xb:Nat)(c:Cfg)(n:Nat)(g:ByteArray->ByteArray)(a:Int×Sg):Prop:=e=.returned (.int .i64 a.1)/\∃X',ProgIs w' X' xb c a.2 n g/\Grows w w' X X'
theorem PDid.same {w w':World}{X:Nat->Prop}{xb:Nat}{c:Cfg}{n:Nat}{g:ByteArray->ByteArray}{k:Int}{σ:Sg}(h:ProgIs w X xb c σ n g)(hb:Below w.heap.size w w'):PDid w w' (.returned (.int .i64 k)) X xb c n g (k,σ):=⟨rfl,X,h.later hb,Grows.of_below hb⟩
theorem pAct (X:Nat->Prop)(xb:Nat)(c:Cfg)(σ:Sg)(n:Nat)(g:ByteArray->ByteArray)(kind lane id num:Int)(pass:Bool)(ea:Option Addr)(en ec:Nat)(r:Rc)(err:Int)(w:World)(hP:ProgIs w X xb c σ n g)(hσ:σ.Ok c g)(hc:c.Ok)(hn:σ.rs.length<1048576)(hcan:err=0->(Ts.all c g σ.rs).Can c r)(hC:∀W Y yb mb,Below w.heap.size w W->YardAt W Y yb mb n c (Ts.all c g σ.rs)->Calls prog 110 #[.pointer (some ⟨yb,0,none⟩),.agg #[.int .i64 kind,.int .i64 lane,.slice ea en ec,.int .i64 id,.bool pass,.int .i64 num]] W λe W'=>e=.returned (.int .i64 err)/\Below W.heap.size W W')(hY:err=0->∀W,Below w.heap.size w W->Calls prog 112 #[.agg #[.int .i64 kind,.int .i64 lane,.slice ea en ec,.int .i64 id,.bool pass,.int .i64 num]] W λe W'=>∃v',e=.returned v'/\Fresh W W' v' r.bytes)(hD:err=0->∀W Y yb mb,Only w W X->YardAt W Y yb mb n c (Ts.all c g σ.rs)->Calls prog 76 #[.pointer (some ⟨yb,0,none⟩),.agg #[.int .i64 kind,.int .i64 lane,.slice ea en ec,.int .i64 id,.bool pass,.int .i64 num]] W λe W'=>e=.returned (.tuple #[])/\YardAt W' (Plus Y W) yb mb n c ((Ts.all c g σ.rs).does c r)/\Only W W' Y):
    Calls prog 73 #[.pointer (some ⟨xb,0,none⟩),.agg #[.int .i64 kind,.int .i64 lane,.slice ea en ec,.int .i64 id,.bool pass,.int .i64 num]] w λe w'=>PDid w w' e X xb c n g (σ.act err r):=by
  have hal:=allB_len (hσ.fits.ok hc)
  rcases hP with ⟨hu,hP⟩|⟨hu,hP⟩
  · have HP:ProgIs w X xb c σ n g:=.inl ⟨hu,hP⟩
    obtain⟨mb,lv,Y,rb,yb,keep',hM,hU,hke,h1,h2,h3,h4,h5,h6,h7⟩:=hP.ex
    by_cases he:err=0
    · subst he
      have hCan:=hcan rfl
      have hbl:=Rc.body_lt (hCan.ok hc)
      have hbl2:=r.bytes_len
      have keepM:∀{w':World},Only w w' (λk=>Y k\/k=xb\/lv.ownBlock=some k)->FilesMap w' mb n g:=λhO=>hM.same (hO.block mb hM.lt (λe=>by
        rcases e with e|e|e
        · exact h5 e
        · exact h6 e
        · exact hM.ne_sl hU.log e))
      have hC':∀W,Below w.heap.size w W->Calls prog 110 #[.pointer (some ⟨yb,0,none⟩),.agg #[.int .i64 kind,.int .i64 lane,.slice ea en ec,.int .i64 id,.bool pass,.int .i64 num]] W λe W'=>e=.returned (.int .i64 0)/\Below W.heap.size W W':=λW hW=>hC W Y yb mb hW (hU.yard.later hW)
      by_cases hb:σ.br=false
      · have ea':σ.act 0 r=(0,{σ with rs:=σ.rs++[r]}):=by simp[Sg.act,Sg.write,hu,hb]
        rw[ea']
        rw[hb] at hU
        refine(mAct_ok Y xb mb n rb yb c _ ((Ts.all c g σ.rs).does c r) _ r.bytes keep' lv kind lane id num pass ea en ec w hU (by omega) (by omega) hC' (hY rfl) (λW hO hYd=>hD rfl W Y yb mb (hO.mono λk hk=>?_) hYd)).mono ?_
        · rcases hk with hk|hk
          · rw[hk];exact hP.fx
          · exact h4 k hk
        · rintro e w' ⟨rfl,⟨Y',lv',hU',hYs,hls⟩,hO⟩
          have hs:=hO.size
          refine⟨rfl,Upto X w w',.inl ⟨hu,⟨⟨mb,lv',Y',rb,yb,keep',keepM hO,?_,?_,.inl h1,.inl h2,λk hk=>?_,λq hq=>?_,λh=>?_,h6,h7⟩,.inl hP.fx,?_⟩⟩,hO.mono λk hk=>?_,λk hk=>?_⟩
          · show UpIs w' Y' xb mb n rb yb c (Ts.all c g (σ.rs++[r])) (allB (σ.rs++[r])) σ.br keep' lv'
            rw[Ts.all_snoc,allB_snoc,hb];exact hU'
          · exact hke
          · rcases hYs k hk with h|h
            · exact .inl (h3 k h)
            · exact .inr ⟨h,hU'.yl k hk⟩
          · rcases hls with h|⟨q',h,hl⟩
            · rw[h] at hq;exact .inl (h4 q hq)
            · exact .inr ⟨by rw[h] at hq;cases hq;exact hl,hU'.log.lt hq⟩
          · rcases hYs mb h with h|h
            · exact h5 h
            · have:=hM.lt;omega
          · rintro k (hk|hk)
            · have:=hP.xl k hk;omega
            · exact hk.2
          · rcases hk with hk|hk|hk
            · exact h3 k hk
            · rw[hk];exact hP.fx
            · exact h4 k hk
          · exact hk.imp (λh=>h) (λh=>h.1)
      · have hb:σ.br=true:=by simpa using hb
        have hk0:=hke hb
        rw[hb] at hU
        subst hk0
        obtain⟨k,hk⟩:∃k:Nat,(k:Int)=max 0 (min σ.keep r.bytes.length):=⟨(max 0 (min σ.keep r.bytes.length)).toNat,by omega⟩
        refine(mAct_br Y xb mb n rb yb c _ _ r.bytes σ.keep lv kind lane id num pass ea en ec w hU (by omega) (by omega) hC' (hY rfl) k hk).mono ?_
        rintro e w' ⟨rfl,⟨lv',hD',hls⟩,hO⟩
        have hs:=hO.size
        have hO':Only w w' (λk=>Y k\/k=xb\/lv.ownBlock=some k):=hO.mono λk hk=>.inr hk
        have hO2:Only w w' X:=hO.mono λk hk=>by
          rcases hk with hk|hk
          · rw[hk];exact hP.fx
          · exact h4 k hk
        have lvX:∀q,lv'.ownBlock=some q->Upto X w w' q:=λq hq=>by
          rcases hls with h|⟨q',h,hl⟩
          · rw[h] at hq;exact .inl (h4 q hq)
          · exact .inr ⟨by rw[h] at hq;cases hq;exact hl,hD'.log.lt hq⟩
        have bound:∀k,Upto X w w' k->k<w'.heap.size:=by
          rintro k (hk|hk)
          · have:=hP.xl k hk;omega
          · exact hk.2
        have sub:∀k,Upto X w w' k->X k\/w.heap.size<=k:=λk hk=>hk.imp (λh=>h) (λh=>h.1)
        by_cases hkl:(r.bytes.length:Int)<=σ.keep
        · have ea':σ.act 0 r=(8,{σ with rs:=σ.rs++[r],up:=false,T:=[],br:=false}):=by simp[Sg.act,Sg.write,hu,hb,hkl]
          rw[ea']
          have hkk:k=r.bytes.length:=by omega
          rw[hkk,List.take_length] at hD'
          refine⟨rfl,Upto X w w',.inr ⟨rfl,⟨⟨mb,lv',keepM hO',?_,.inl h1,lvX,h6⟩,.inl hP.fx,bound⟩⟩,hO2,sub⟩
          show DownIs w' xb mb c (allB (σ.rs++[r])++[]) lv'
          rw[allB_snoc,List.append_nil];exact hD'
        · have ea':σ.act 0 r=(8,{σ with up:=false,T:=r.bytes.take σ.keep.toNat,br:=false}):=by simp[Sg.act,Sg.write,hu,hb,hkl]
          rw[ea']
          have hkk:k=σ.keep.toNat:=by omega
          rw[hkk] at hD'
          exact⟨rfl,Upto X w w',.inr ⟨rfl,⟨⟨mb,lv',keepM hO',hD',.inl h1,lvX,h6⟩,.inl hP.fx,bound⟩⟩,hO2,sub⟩
    · have ea':σ.act err r=(err,σ):=by simp[Sg.act,hu,he]
      rw[ea']
      refine(mAct_no Y xb mb n rb yb c _ _ σ.br keep' lv kind lane id num pass ea en ec err he w hU (λW hW=>hC W Y yb mb hW (hU.yard.later hW))).mono ?_
      rintro e w' ⟨rfl,hb⟩
      exact .same HP hb
  · have ea':σ.act err r=(8,σ):=by simp[Sg.act,hu]
    rw[ea']
    have HP:ProgIs w X xb c σ n g:=.inr ⟨hu,hP⟩
    obtain⟨mb,lv,hM,hDn,_⟩:=hP.ex
    refine(mAct_down xb mb c _ lv kind lane id num pass ea en ec w hDn).mono ?_
    rintro e w' ⟨rfl,hb⟩
    exact .same HP hb
def Sg.ack (σ:Sg)(m:Int)(err:Int):Int×Sg:=σ.act err ⟨6,0,m.toNat,false,[]⟩
def Sg.sub (σ:Sg)(id lane:Int)(es:List Ed)(err:Int):Int×Sg:=σ.act err ⟨1,lane.toNat,id.toNat,false,es⟩
def AckErr (s:Ts)(m err:Int):Prop:=((s.acked<s.outs.length/\m=(s.acked:Int)+1)/\err=0)\/((¬(s.acked<s.outs.length/\m=(s.acked:Int)+1))/\err=5)
theorem ack_can {c:Cfg}{g:ByteArray->ByteArray}{rs:List Rc}{m err:Int}(h:AckErr (Ts.all c g rs) m err)(hl:(Ts.all c g rs).outs.length<1048576000)(he:err=0):(Ts.all c g rs).Can c ⟨6,0,m.toNat,false,[]⟩/\m=(m.toNat:Int):=by
  rcases h with ⟨⟨h1,h2⟩,_⟩|⟨_,h⟩
  · exact⟨⟨by simp,by simp;omega,λh=>(by cases h),λh=>(by cases h),λh=>(by cases h),λh=>(by cases h),λ_=>h1⟩,by omega⟩
  · omega
theorem sub_can {c:Cfg}{g:ByteArray->ByteArray}{rs:List Rc}{id lane err:Int}{es:List Ed}(h:SubErr c (Ts.all c g rs) id lane es err)(he:err=0):(Ts.all c g rs).Can c ⟨1,lane.toNat,id.toNat,false,es⟩/\id=(id.toNat:Int)/\lane=(lane.toNat:Int)/\Small es:=by
  subst he
  rcases h with ⟨_,h⟩|⟨_,_,h⟩|⟨_,_,_,h⟩|⟨⟨h1,h2,h3,h4,h5⟩,h6,h7,_⟩
  · omega
  · omega
  · omega
  · have hs:=eds_small h5
    exact⟨⟨by simp,by simp;omega,λ_=>⟨by simp;omega,h6,h7,by simp;omega,h5⟩,λh=>(by cases h),λh=>(by cases h),λh=>(by cases h),λh=>(by cases h)⟩,by omega,by omega,hs⟩
theorem ack_fun {s:Ts}{id e e':Int}(h:AckErr s id e)(h':AckErr s id e'):e=e':=by
  rcases h with ⟨h,rfl⟩|⟨h,rfl⟩<;>rcases h' with ⟨h',rfl⟩|⟨h',rfl⟩<;>first|rfl|exact absurd h h'|exact absurd h' h
theorem sub_fun {c:Cfg}{s:Ts}{id lane:Int}{es:List Ed}{e e':Int}(h:SubErr c s id lane es e)(h':SubErr c s id lane es e'):e=e':=by
  unfold SubErr at h h'
  rcases h with ⟨a,rfl⟩|⟨a,b,rfl⟩|⟨a,b,d,rfl⟩|⟨a,b,d,rfl⟩<;>rcases h' with ⟨a',rfl⟩|⟨a',b',rfl⟩|⟨a',b',d',rfl⟩|⟨a',b',d',rfl⟩<;>first|rfl|exact absurd a a'|exact absurd a' a|exact absurd b b'|exact absurd b' b|omega
theorem does6 (c:Cfg)(s:Ts)(id:Nat):s.does c ⟨6,0,id,false,[]⟩={s with acked:=s.acked+1}:=by simp[Ts.does]
theorem does1 (c:Cfg)(s:Ts)(id lane:Nat)(es:List Ed):s.does c ⟨1,lane,id,false,es⟩={s with ids:=s.ids++[id],queue:=s.queue++[⟨id,lane,0,s.ids.length,es⟩]}:=by simp[Ts.does]
theorem pAck (X:Nat->Prop)(xb:Nat)(c:Cfg)(σ:Sg)(n:Nat)(g:ByteArray->ByteArray)(m err:Int)(w:World)(hP:ProgIs w X xb c σ n g)(hσ:σ.Ok c g)(hc:c.Ok)(hn:σ.rs.length<1048576)(he:AckErr (Ts.all c g σ.rs) m err):
    Calls prog 79 #[.pointer (some ⟨xb,0,none⟩),.int .i64 m] w λe w'=>PDid w w' e X xb c n g (σ.ack m err):=by
  obtain⟨hI,hFw⟩:=hσ.fits.inv hc
  have hF1:=hFw.ids
  have hcnt:=hI.cnt
  refine mAck_of xb m _ (λw'=>∃X',ProgIs w' X' xb c (σ.ack m err).2 n g/\Grows w w' X X') w (pAct X xb c σ n g 6 0 0 m false none 0 0 ⟨6,0,m.toNat,false,[]⟩ err w hP hσ hc hn (λh=>(ack_can he (by omega) h).1) ?_ ?_ ?_)
  · intro W Y yb mb _ hY
    refine(yCheck6 Y yb mb n c _ m W hY hI.ack).mono ?_
    rintro e W' ⟨h,hb⟩
    refine⟨?_,hb⟩
    rcases h with ⟨h,rfl⟩|⟨h,rfl⟩
    · rw[ack_fun he (.inl ⟨h,rfl⟩)]
    · rw[ack_fun he (.inr ⟨h,rfl⟩)]
  · intro h0 W _
    obtain⟨hcan,hid⟩:=ack_can (c:=c) (g:=g) he (by omega) h0
    have:=prog_bytes ⟨6,0,m.toNat,false,[]⟩ (hcan.ok hc) none 0 0 W (λh=>by cases h)
    simp[progR,<-hid] at this
    exact this
  · intro h0 W Y yb mb _ hY
    obtain⟨hcan,hid⟩:=ack_can (c:=c) (g:=g) he (by omega) h0
    have:=yDo6 Y yb mb n m c _ W hY (hcan.ack rfl)
    rw[<-does6 c _ m.toNat] at this
    exact this
theorem pSubmit (X:Nat->Prop)(xb:Nat)(c:Cfg)(σ:Sg)(n:Nat)(g:ByteArray->ByteArray)(id lane err:Int)(es:List Ed)(ea:Option Addr)(ec:Nat)(w:World)(hP:ProgIs w X xb c σ n g)(hσ:σ.Ok c g)(hc:c.Ok)(hn:σ.rs.length<1048576)(he:SubErr c (Ts.all c g σ.rs) id lane es err)(hE:EditsAt w (.slice ea es.length ec) es)(hcap:es.length<=ec)(hen:es.length<8796093022208)(hX:∀b,(Value.slice ea es.length ec).ownBlock=some b->¬X b):
    Calls prog 31 #[.pointer (some ⟨xb,0,none⟩),.int .i64 id,.int .i64 lane,.slice ea es.length ec] w λe w'=>PDid w w' e X xb c n g (σ.sub id lane es err):=by
  obtain⟨hI,hFw⟩:=hσ.fits.inv hc
  have hF1:=hFw.ids
  have hcnt:=hI.cnt
  have hq16:(Ts.all c g σ.rs).queue.length<=16:=Nat.le_trans hI.len hc.2.2.2.2.2.2.2
  have key:err=0->∃b off,ea=some ⟨b,off,none⟩/\b<w.heap.size/\(∀i (h:i<es.length),w.cell? ⟨b,off+i*3,none⟩=some (.string es[i].1))/\(∀i (h:i<es.length),w.cell? ⟨b,off+i*3+1,none⟩=some (.string es[i].2.1))/\(∀i (h:i<es.length),w.cell? ⟨b,off+i*3+2,none⟩=some (.string es[i].2.2)):=λh0=>by
    have hok:EditsOK es:=by
      subst h0
      rcases he with ⟨_,h⟩|⟨_,_,h⟩|⟨_,_,_,h⟩|⟨h,_⟩
      · omega
      · omega
      · omega
      · exact h.2.2.2.2
    rcases hE with ⟨rfl,_⟩|⟨b,off,cap,hv,h1,h2,h3,h4⟩
    · have:=hok.1;simp at this
    · injection hv with hv _ _
      exact⟨b,off,hv,h1,h2,h3,h4⟩
  refine mSubmit_of xb id lane ea es.length ec _ (λw'=>∃X',ProgIs w' X' xb c (σ.sub id lane es err).2 n g/\Grows w w' X X') w (pAct X xb c σ n g 1 lane id 0 false ea es.length ec ⟨1,lane.toNat,id.toNat,false,es⟩ err w hP hσ hc hn (λh=>(sub_can he h).1) ?_ ?_ ?_)
  · intro W Y yb mb hb hY
    refine(yCheck1 Y yb mb n c _ id lane es ea es.length ec W hY (hE.later hb) hcap hen hq16).mono ?_
    rintro e W' ⟨⟨k,rfl,hk⟩,hb⟩
    exact⟨by rw[sub_fun he hk],hb⟩
  · intro h0 W hb
    obtain⟨hcan,hid,hla,hsm⟩:=sub_can he h0
    obtain⟨b,off,rfl,hlt,e0,e1,e2⟩:=key h0
    have:=prog_bytes ⟨1,lane.toNat,id.toNat,false,es⟩ (hcan.ok hc) (some ⟨b,off,none⟩) es.length ec W (λ_=>⟨b,off,rfl,rfl,Nat.lt_of_lt_of_le hlt hb.size,λi hi=>jcell_after hb (e0 i hi),λi hi=>jcell_after hb (e1 i hi),λi hi=>jcell_after hb (e2 i hi)⟩)
    simp[progR,<-hid,<-hla] at this
    exact this
  · intro h0 W Y yb mb hO hY
    obtain⟨hcan,hid,hla,hsm⟩:=sub_can he h0
    obtain⟨b,off,rfl,hlt,e0,e1,e2⟩:=key h0
    have nX:=hX b rfl
    obtain⟨s1,s2,s3,s4,s5⟩:=hcan.sub rfl
    have:=yDo1 Y yb mb n id.toNat lane.toNat 0 false b off ec es c _ W hY hq16 hsm s1 s2 (by omega) (Nat.lt_of_lt_of_le hlt hO.size) (λi hi=>only_cell hO nX (e0 i hi)) (λi hi=>only_cell hO nX (e1 i hi)) (λi hi=>only_cell hO nX (e2 i hi))
    rw[<-does1 c] at this
    unfold recC at this
    rw[<-hid,<-hla] at this
    exact this
def Sg.pump (σ:Sg):Int×Sg:=σ.act 0 ⟨3,0,0,false,[]⟩
def Sg.answer (σ:Sg)(num:Int)(pass:Bool)(err:Int):Int×Sg:=σ.act err ⟨4,0,num.toNat,pass,[]⟩
def AnsErr (s:Ts)(num err:Int):Prop:=((∃x∈s.segs,x.runsI num=true)/\err=0)\/((¬∃x∈s.segs,x.runsI num=true)/\err=6)
theorem Sm.runsI_iff (x:Sm)(num:Int):x.runsI num=true↔∃j,x.job=some j/\(j.num:Int)=num:=by
  unfold Sm.runsI
  split
  · rename_i j e
    simp[e]
  · rename_i e
    simp[e]
theorem ans_fun {s:Ts}{id e e':Int}(h:AnsErr s id e)(h':AnsErr s id e'):e=e':=by
  rcases h with ⟨h,rfl⟩|⟨h,rfl⟩<;>rcases h' with ⟨h',rfl⟩|⟨h',rfl⟩<;>first|rfl|exact absurd h h'|exact absurd h' h
theorem pump_can {c:Cfg}{s:Ts}:s.Can c ⟨3,0,0,false,[]⟩:=⟨by simp,by simp,λh=>(by cases h),λh=>(by cases h),λh=>(by cases h),λh=>(by cases h),λh=>(by cases h)⟩
theorem ans_can {c:Cfg}{s:Ts}{num err:Int}{pass:Bool}(h:AnsErr s num err)(hI:s.Inv c)(hb:s.begun<1048576000)(he:err=0):s.Can c ⟨4,0,num.toNat,pass,[]⟩/\num=(num.toNat:Int):=by
  rcases h with ⟨⟨x,hx,hr⟩,_⟩|⟨_,h⟩
  · obtain⟨j,ej,hn⟩:=(Sm.runsI_iff x num).1 hr
    have hj:=((hI.sm x hx).job j ej).2.2.2.1
    have e:num=(num.toNat:Int):=by omega
    exact⟨⟨by simp,by simp;omega,λh=>(by cases h),λh=>(by cases h),λ_=>⟨x,hx,(Sm.runs_iff _ _).2 ⟨j,ej,by simp only;omega⟩⟩,λh=>(by cases h),λh=>(by cases h)⟩,e⟩
  · omega
theorem does3 (c:Cfg)(s:Ts):s.does c ⟨3,0,0,false,[]⟩=s.pump c:=by simp[Ts.does]
theorem does4 (c:Cfg)(s:Ts)(num:Nat)(pass:Bool):s.does c ⟨4,0,num,pass,[]⟩=s.answer num pass:=by simp[Ts.does]
theorem pPump (X:Nat->Prop)(xb:Nat)(c:Cfg)(σ:Sg)(n:Nat)(g:ByteArray->ByteArray)(w:World)(hP:ProgIs w X xb c σ n g)(hσ:σ.Ok c g)(hc:c.Ok)(hn:σ.rs.length<1048576)(h0:n<1048576000):
    Calls prog 30 #[.pointer (some ⟨xb,0,none⟩)] w λe w'=>PDid w w' e X xb c n g σ.pump:=by
  obtain⟨hI,hFw⟩:=hσ.fits.inv hc
  have f1:=hFw.ids
  have f2:=hFw.begun
  have f3:=hFw.now
  refine mPump_of xb _ (λw'=>∃X',ProgIs w' X' xb c σ.pump.2 n g/\Grows w w' X X') w (pAct X xb c σ n g 3 0 0 0 false none 0 0 ⟨3,0,0,false,[]⟩ 0 w hP hσ hc hn (λ_=>pump_can) ?_ ?_ ?_)
  · intro W Y yb mb _ hY
    exact yCheck3 yb W
  · intro _ W _
    exact prog_bytes ⟨3,0,0,false,[]⟩ ((pump_can (s:=Ts.all c g σ.rs)).ok hc) none 0 0 W (λh=>by cases h)
  · intro _ W Y yb mb _ hY
    have:=yDo3 Y yb mb n 0 0 0 none 0 0 false c _ W hY hI hc (by omega) h0 (by omega) (by omega)
    rw[<-does3] at this
    exact this
theorem pAnswer (X:Nat->Prop)(xb:Nat)(c:Cfg)(σ:Sg)(n:Nat)(g:ByteArray->ByteArray)(num err:Int)(pass:Bool)(w:World)(hP:ProgIs w X xb c σ n g)(hσ:σ.Ok c g)(hc:c.Ok)(hn:σ.rs.length<1048576)(he:AnsErr (Ts.all c g σ.rs) num err):
    Calls prog 44 #[.pointer (some ⟨xb,0,none⟩),.int .i64 num,.bool pass] w λe w'=>PDid w w' e X xb c n g (σ.answer num pass err):=by
  obtain⟨hI,hFw⟩:=hσ.fits.inv hc
  have f2:=hFw.begun
  refine mAnswer_of xb num pass _ (λw'=>∃X',ProgIs w' X' xb c (σ.answer num pass err).2 n g/\Grows w w' X X') w (pAct X xb c σ n g 4 0 0 num pass none 0 0 ⟨4,0,num.toNat,pass,[]⟩ err w hP hσ hc hn (λh=>(ans_can he hI (by omega) h).1) ?_ ?_ ?_)
  · intro W Y yb mb _ hY
    refine(yCheck4 Y yb mb n c _ num pass W hY hI).mono ?_
    rintro e W' ⟨h,hb⟩
    refine⟨?_,hb⟩
    rcases h with ⟨h,rfl⟩|⟨h,rfl⟩
    · rw[ans_fun he (.inl ⟨h,rfl⟩)]
    · rw[ans_fun he (.inr ⟨h,rfl⟩)]
  · intro h0 W _
    obtain⟨hcan,hid⟩:=ans_can (pass:=pass) he hI (by omega) h0
    have:=prog_bytes ⟨4,0,num.toNat,pass,[]⟩ (hcan.ok hc) none 0 0 W (λh=>by cases h)
    simp[progR,<-hid] at this
    exact this
  · intro h0 W Y yb mb _ hY
    obtain⟨hcan,hid⟩:=ans_can (pass:=pass) he hI (by omega) h0
    have:=yDo4 Y yb mb n num.toNat 0 0 none 0 0 pass c _ W hY hI hc
    rw[<-hid,<-does4 c] at this
    exact this
def Sg.poll (c:Cfg)(g:ByteArray->ByteArray)(σ:Sg):Int×Int×Int×Int:=
  if σ.up=false then (0,0,0,8) else if h:(Ts.all c g σ.rs).acked<(Ts.all c g σ.rs).outs.length then (((Ts.all c g σ.rs).acked:Int)+1,((Ts.all c g σ.rs).outs[(Ts.all c g σ.rs).acked]'h).1,((Ts.all c g σ.rs).outs[(Ts.all c g σ.rs).acked]'h).2,0) else (0,0,0,5)
def pollV (p:Int×Int×Int×Int):Value:=.tuple #[.agg #[.int .i64 p.1,.int .i64 p.2.1,.int .i64 p.2.2.1],.int .i64 p.2.2.2]
theorem pPoll (X:Nat->Prop)(xb:Nat)(c:Cfg)(σ:Sg)(n:Nat)(g:ByteArray->ByteArray)(w:World)(hP:ProgIs w X xb c σ n g)(hσ:σ.Ok c g)(hc:c.Ok):
    Calls prog 77 #[.pointer (some ⟨xb,0,none⟩)] w λe w'=>e=.returned (pollV (σ.poll c g))/\Below w.heap.size w w':=by
  rcases hP with ⟨hu,hP⟩|⟨hu,hP⟩
  · obtain⟨mb,lv,Y,rb,yb,keep',hM,hU,_⟩:=hP.ex
    by_cases h:(Ts.all c g σ.rs).acked<(Ts.all c g σ.rs).outs.length
    · refine(mPoll_some Y xb mb n rb yb c _ _ σ.br keep' lv w hU h).mono ?_
      rintro e w' ⟨rfl,hb⟩
      exact⟨by simp[Sg.poll,hu,h,pollV],hb⟩
    · refine(mPoll_none Y xb mb n rb yb c _ _ σ.br keep' lv w hU (by have:=(hσ.fits.inv hc).1.ack;omega)).mono ?_
      rintro e w' ⟨rfl,hb⟩
      exact⟨by simp[Sg.poll,hu,h,pollV],hb⟩
  · obtain⟨mb,lv,hM,hD,_⟩:=hP.ex
    refine(mPoll_down xb mb c _ lv w hD).mono ?_
    rintro e w' ⟨rfl,hb⟩
    exact⟨by simp[Sg.poll,hu,pollV],hb⟩
def TellsQ (w w':World)(e:Ending)(c:Cfg)(g:ByteArray->ByteArray)(σ:Sg):Prop:=(σ.up=true/\ToldQ w w' e c.age (Ts.all c g σ.rs).queue)\/(σ.up=false/\e=.returned (.tuple #[.slice none 0 0,.int .i64 8]))
theorem pQueue (X:Nat->Prop)(xb:Nat)(c:Cfg)(σ:Sg)(n:Nat)(g:ByteArray->ByteArray)(w:World)(hP:ProgIs w X xb c σ n g)(hσ:σ.Ok c g)(hc:c.Ok)(hn:σ.rs.length<1048576):
    Calls prog 27 #[.pointer (some ⟨xb,0,none⟩)] w λe w'=>TellsQ w w' e c g σ/\Below w.heap.size w w':=by
  rcases hP with ⟨hu,hP⟩|⟨hu,hP⟩
  · obtain⟨mb,lv,Y,rb,yb,keep',hM,hU,_⟩:=hP.ex
    refine(mQueue_up Y xb mb n rb yb c _ _ σ.br keep' lv w hU (hσ.fits.inv hc).1 hc (by have:=(hσ.fits.inv hc).2.ids;omega)).mono ?_
    rintro e w' ⟨h,hb⟩
    exact⟨.inl ⟨hu,h⟩,hb⟩
  · obtain⟨mb,lv,hM,hD,_⟩:=hP.ex
    refine(mQueue_down xb mb c _ lv w hD).mono ?_
    rintro e w' ⟨rfl,rfl⟩
    exact⟨.inr ⟨hu,rfl⟩,Below.refl _ _⟩
def Sg.top (c:Cfg)(g:ByteArray->ByteArray)(n:Nat)(σ:Sg):Nat:=n+4*(Ts.all c g σ.rs).outs.length
def TellsF (w w':World)(e:Ending)(c:Cfg)(σ:Sg)(n:Nat)(g:ByteArray->ByteArray):Prop:=(σ.up=true/\∃(l:List Fl) (b cap:Nat),e=.returned (.tuple #[.slice (some ⟨b,0,none⟩) l.length cap,.int .i64 0])/\Told l (Ts.all c g σ.rs).tip/\l.length<=σ.top c g n/\w'.ownsRow w.heap.size 80 2 (.slice (some ⟨b,0,none⟩) l.length cap) l.length (l.flatMap cF))\/(σ.up=false/\e=.returned (.tuple #[.slice none 0 0,.int .i64 8]))
theorem pTree (X:Nat->Prop)(xb:Nat)(c:Cfg)(σ:Sg)(n:Nat)(g:ByteArray->ByteArray)(w:World)(hP:ProgIs w X xb c σ n g)(hn:σ.top c g n*32<=140737488355328):
    Calls prog 64 #[.pointer (some ⟨xb,0,none⟩)] w λe w'=>TellsF w w' e c σ n g/\Below w.heap.size w w':=by
  rcases hP with ⟨hu,hP⟩|⟨hu,hP⟩
  · obtain⟨mb,lv,Y,rb,yb,keep',hM,hU,_⟩:=hP.ex
    refine(mTree_up Y xb mb n rb yb c _ _ σ.br keep' lv w hU hn).mono ?_
    rintro e w' ⟨h,hb⟩
    exact⟨.inl ⟨hu,h⟩,hb⟩
  · obtain⟨mb,lv,hM,hD,_⟩:=hP.ex
    refine(mTree_down xb mb c _ lv w hD).mono ?_
    rintro e w' ⟨rfl,rfl⟩
    exact⟨.inr ⟨hu,rfl⟩,Below.refl _ _⟩
end Go.Proofs.YtgamgomepdfgdaaGreat
