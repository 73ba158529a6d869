import Derived.Deep.LoopGhost
import Derived.Test.YtgamgomepdfgdaaGreatAM15
import Derived.Test.YtgamgomepdfgdaaGreatAM14
set_option maxRecDepth 100000
set_option maxHeartbeats 8000000
namespace Go.Proofs.YtgamgomepdfgdaaGreat
open Go.RowKit Go.Proofs.Tryz
section
variable{c:Cfg}{mb n0 yb:Nat}{S:Nat->Prop}{s s':Ts}{w w1 w2:World}
attribute [local go_sem] Oper.semAt_some
theorem Cu (h:aJ w S yb mb n0 c s)(hI:s.Inv c)(hc:c.Ok)(hi:s.ids.length<1048575000)(h0:n0<1048576000)(hbg:s.begun<1048576000)(hnw:s.now<1048576000):
 c_ 172 #[ptr yb] w λe w'=>e=.returned (.tuple #[])/\bZ w w' S yb mb n0 c (s.begin c):=by
 obtain⟨q,i,g,f,x,h,d⟩:=h;refine(Cs h d hI hc hi h0 hbg hnw).mono ?_;rintro e w' ⟨rfl,b,a⟩;exact⟨rfl,b,ak.mono a (λ_ h=>h) (by decide)⟩
theorem bZ.two (h:bZ w w1 S yb mb n0 c s)(h2:bZ w1 w2 (aE S w) yb mb n0 c s'):bZ w w2 S yb mb n0 c s':=by
 obtain⟨q,g,f,e,x,a,d⟩:=h2.1;have b:=h.1.nm.1;exact⟨⟨q,g,f,e,x,a.mono (aE.two h.2.size) b,d⟩,ak.mono (ak.trans h.2 h2.2 λ_ h=>h) (λ_ h=>h) (by decide)⟩
theorem run_none (h:s.step c=none):∀n,s.run c n=s
 |0=>rfl
 |n+1=>by
  unfold Ts.run
  rw[h]
theorem DF (h:aJ w S yb mb n0 c s)(hI:s.Inv c)(hc:c.Ok)(hi:s.ids.length<1048575000)(h0:n0<1048576000)(hbg:s.begun<1048576000)(hnw:s.now<1048576000):
 c_ 117 #[ptr yb] w λe w'=>e=.returned (.tuple #[])/\bZ w w' S yb mb n0 c (s.pump c):=by
 have J:Hid (∀(W:World) (a:Ts),aJ W (aE S w) yb mb n0 c a->a.Inv c->a.ids.length<1048575000->c_ 171 #[Px yb] W λe w'=>e=.returned (.bool (a.step c).isSome)/\bZ W w' (aE S w) yb mb n0 c ((a.step c).getD a)):=λW a h1 h2 h3=>DD h1 h2 hc h3 h0;have z:Hid (∀(W:World) (a:Ts),aJ W (aE S w) yb mb n0 c a->a.Inv c->a.ids.length<1048575000->a.begun<1048576000->a.now<1048576000->c_ 172 #[Px yb] W λe w'=>e=.returned (.tuple #[])/\bZ W w' (aE S w) yb mb n0 c (a.begin c)):=λW a h1 h2 h3 h4 h5=>Cu h1 h2 hc h3 h0 h4 h5
 have D:Hid (∃a,a.mu=s.mu/\bZ w w S yb mb n0 c a/\a.Inv c/\(a.ids=s.ids/\a.begun=s.begun/\a.now=s.now)/\a.run c a.mu=s.run c s.mu):=by
  obtain⟨q,N,M,L,x,E,K⟩:=h;exact⟨s,rfl,⟨⟨q,N,M,L,x,E.mono (aE.old w) E.np,K⟩,ak.refl _ _ _⟩,hI,⟨rfl,rfl,rfl⟩,rfl⟩
 clear h hI;unfold ptr;go_enter func117,ntmps117;go_wp2_with fail;go_loopg [] s.mu (λn wr=>Hid (∃a,a.mu=n/\bZ w wr S yb mb n0 c a/\a.Inv c/\(a.ids=s.ids/\a.begun=s.begun/\a.now=s.now)/\a.run c a.mu=s.run c s.mu))
 case atStart=>exact D.out
 obtain⟨a,G,C,p,f,k⟩:=hrel.out;have t:=J.out wr a C.1 p (by rw[f.1];exact hi);have u:=hd C;have m:=hd p;have j:=hd k;have b:=hd f;have B:=hd G;clear hrel D C p f k G;cases hst:a.step c with
 |none=>
  rw[hst] at t
  have I:Hid (a.begin c=s.pump c):=by
   show _=_;unfold Ts.pump;rw[<-j.out,run_none hst]
  clear hst;go_wp2_with fail;go_fit t;rintro e H ⟨rfl,d⟩;have o:=bZ.two u.out d;have F:=z.out H a o.1 m.out (by rw[b.out.1];exact hi) (by rw[b.out.2.1];exact hbg) (by rw[b.out.2.2];exact hnw);have l:=hd o;clear t d o;go_wp2_with fail;go_fit F;rintro e O ⟨rfl,v⟩
  have A:Hid (bZ w O S yb mb n0 c (s.pump c)):=by
   have:=bZ.two l.out v;rwa [I.out] at this
  clear F v;go_wp2_with fail;go_end0;exact⟨rfl,A.out⟩
 |some s2=>
  rw[hst] at t;have r:=m.out.goes hc hst;have i:=Ts.step_same hst;have y:=m.out.run_step hc hst;have g:Hid (s2.Inv c/\s2.mu<gk/\(s2.ids=s.ids/\s2.begun=s.begun/\s2.now=s.now)/\s2.run c s2.mu=s.run c s.mu):=⟨r.1,by rw[<-B.out];exact r.2,⟨i.1.trans b.out.1,i.2.1.trans b.out.2.1,i.2.2.1.trans b.out.2.2⟩,y.symm.trans j.out⟩;clear hst r i y;go_wp2_with fail;go_fit t;rintro e H ⟨rfl,d⟩;have l:=hd (bZ.two u.out d);clear t d;go_wp2_with fail;go_roundg s2.mu
  case rel=>exact⟨s2,rfl,l.out,g.out.1,g.out.2.2.1,g.out.2.2.2⟩
  case measure=>exact g.out.2.1
end
section
variable{pass:Bool}{c:Cfg}{zs:List (Nat×Sm)}{es:List Ed}{q:List Pw}{tl:List Tp}{mb n0 num sb yb:Nat}{S:Nat->Prop}{s:Ts}{ov qv:Value}{W w:World}{x:Xt}
attribute [local go_sem] Oper.semAt_some
theorem aU.at (h:aU w S yb mb n0 c s q sb qv ov x tl zs)(hx:x.n<=n0+4*s.outs.length):aJ w S yb mb n0 c s:=⟨q,sb,qv,ov,x,h.is,hx⟩
theorem aU.few (h:aU w S yb mb n0 c s q sb qv ov x tl zs)(hI:s.Inv c):zs.length<=8:=by
 have b:=dP hI.sm;have d:=hI.tr;have a:(zs.map Prod.snd).length=s.segs.length:=by rw[h.rest.train.snd]
 rw[d_] at a;omega
theorem aU.sm (h:aU w S yb mb n0 c s q sb qv ov x tl zs)(hI:s.Inv c):∀z∈zs,dv c s.begun s.now z.2:=λz hz=>hI.sm z.2 (by rw[<-h.rest.train.snd];exact x_ hz)
theorem rC:∀{zs:List (Nat×Sm)},(zs.map Prod.snd).Pairwise df->∀{z z':Nat×Sm} {n:Nat},z∈zs->z'∈zs->z.2.runs n=true->z'.2.runs n=true->z=z'
 |[],_,_,_,_,h,_,_,_=>by cases h
 |a::l,hp,z,z',n,h1,h2,r1,r2=>by
  rw[C_,List.pairwise_cons] at hp
  obtain⟨j,ej,hj⟩:=(Sm.runs_iff _ _).1 r1
  obtain⟨k,c,e⟩:=(Sm.runs_iff _ _).1 r2
  rcases R_.1 h1 with rfl|d
  ·rcases R_.1 h2 with rfl|b
   ·rfl
   exact absurd (hj.trans e.symm) (hp.1 z'.2 (x_ b) j k ej c)
  rcases R_.1 h2 with rfl|b
  ·exact absurd (e.trans hj.symm) (hp.1 z.2 (x_ d) k j c ej)
  exact rC hp.2 d b r1 r2
theorem DI (S:Nat->Prop)(yb mb n0:Nat)(l i q:Int)(ea:Option Addr)(en ec:Nat)(p:Bool)(c:Cfg)(s:Ts)(w:World)(hY:aJ w S yb mb n0 c s)(hI:s.Inv c)(hc:c.Ok)(hi:s.ids.length<1048575000)(h0:n0<1048576000)(hbg:s.begun<1048576000)(hnw:s.now<1048576000):
 c_ 76 #[Px yb,.agg #[I 3,I l,.slice ea en ec,I i,.bool p,I q]] w λe w'=>e=.returned (.tuple #[])/\aJ w' (aE S w) yb mb n0 c (s.pump c)/\ai w w' S:=by
 have d:=DF (hY.later (af w (.cells #[I 3,I l,.slice ea en ec,I i,.bool p,I q] 140))) hI hc hi h0 hbg hnw;have f:=aE.not hY.nm.1 hY.nm.2;unfold ptr at d;clear hY hI;go_enter func76,ntmps76;go_wp2_with fail;go_fit d;rintro e j ⟨rfl,b,a⟩;have h:Hid _:=b;have g:=hd (ai.from_new a.only);clear b a d;go_wp2_with fail;exact be_ ⟨rfl,aJ.mono h.out aE.from_new f,g.out⟩
theorem DJ (S:Nat->Prop)(yb mb n0 m:Nat)(l i:Int)(ea:Option Addr)(en ec:Nat)(p:Bool)(c:Cfg)(s:Ts)(w:World)(hY:aJ w S yb mb n0 c s)(hI:s.Inv c)(hc:c.Ok)(hm:m<=1000)(hn:s.now<1048576000):
 c_ 76 #[Px yb,.agg #[I 5,I l,.slice ea en ec,I i,.bool p,I m]] w λe w'=>e=.returned (.tuple #[])/\aJ w' (aE S w) yb mb n0 c (s.tick m)/\ai w w' S:=by
 have k:=aE.not hY.nm.1 hY.nm.2;obtain⟨q,E,D,C,x,h,o⟩:=hY;obtain⟨F,H,f⟩:=h.z;have d:=f.later (af w (.cells #[I 5,I l,.slice ea en ec,I i,.bool p,I m] 140))
 have g:=Dx m d (f.few hI) hm hn λz hz=>by
  have n:=f.sm hI z hz;have A:=hc.2.2.2.2.1;have B:=hc.2.2.2.2.2.1.2;exact⟨by have:=n.fails;omega,λj hj=>by have:=(n.job j hj).2.2.2.2;omega⟩
 unfold ptr at g;have t:=hd o;clear h f d hI hc o;go_enter func76,ntmps76;go_wp2_with fail;go_fit g;rintro e G ⟨rfl,⟨y,b⟩,a⟩;have u:=hd (b.at t.out);have r:=hd (ai.from_new a.only);clear b a g;go_wp2_with fail;exact be_ ⟨rfl,aJ.mono u.out (aE.old w) k,r.out⟩
theorem DG (S:Nat->Prop)(yb mb n0:Nat)(l i q:Int)(ea:Option Addr)(en ec:Nat)(p:Bool)(c:Cfg)(s:Ts)(w:World)(hY:aJ w S yb mb n0 c s)(hI:s.Inv c):
 c_ 76 #[Px yb,.agg #[I 7,I l,.slice ea en ec,I i,.bool p,I q]] w λe w'=>e=.returned (.tuple #[])/\aJ w' (aE S w) yb mb n0 c s.lose/\ai w w' S:=by
 have j:=aE.not hY.nm.1 hY.nm.2;obtain⟨u,A,y,t,x,h,k⟩:=hY;obtain⟨B,D,g⟩:=h.z;have d:=g.later (af w (.cells #[I 7,I l,.slice ea en ec,I i,.bool p,I q] 140));have f:=Dw d (g.few hI);unfold ptr at f;have n:=hd k;clear h g d hI k;go_enter func76,ntmps76;go_wp2_with fail;go_fit f;rintro e C ⟨rfl,⟨r,b⟩,a⟩;have o:=hd (b.at n.out);have m:=hd (ai.from_new a.only);clear b a f;go_wp2_with fail;exact be_ ⟨rfl,aJ.mono o.out (aE.old w) j,m.out⟩
def tJ (num:Nat)(pass:Bool)(x:Sm):Sm:=if x.runs num then x.ends pass num else x
theorem yF {z:Nat×Sm}(h:aU w S yb mb n0 c s q sb qv ov x tl zs)(hI:s.Inv c)(hz:z∈zs)(hr:z.2.runs num=true)(hO:ai w W (λk=>k=z.1))(hS:dt W S (s.top n0) (z.1,z.2.ends pass num)):
 (∃zs',aU W S yb mb n0 c (s.answer num pass) q sb qv ov x tl zs')/\ak w W S [240]:=by
 have e:tJ num pass z.2=z.2.ends pass num:=if_pos hr;have b:=(bP.start (f:=tJ num pass) h.rest.train.segs (n_ _ w)).step h.rest.train.nd hz hO (by rw[e];exact hS)
 have a:bP w W S (s.top n0) zs (tJ num pass) (zs.map Prod.fst):=⟨b.1,λz' hz'=>by
  have:=b.2 z' hz';rw[if_pos (x_ hz')];by_cases e1:z'.1=z.1
  ·simpa[e1] using this
  have d:tJ num pass z'.2=z'.2:=if_neg λhr'=>e1 (by rw[rC (by rw[h.rest.train.snd];exact hI.jobs) hz' hz hr' hr]);rw[d]
  simpa[e1] using this⟩
 exact⟨⟨_,a.done h⟩,a.1⟩
theorem yG (h:aU w S yb mb n0 c s q sb qv ov x tl zs)(hn:∀z∈zs,z.2.runs num=false):s.answer num pass=s:=by
 have:(s.segs.map λx=>if x.runs num then x.ends pass num else x)=s.segs:=by
  rw[<-h.rest.train.snd,y_];refine List.map_congr_left λz hz=>?_;simp[hn z hz]
 unfold Ts.answer;rw[this]
theorem DH (S:Nat->Prop)(yb mb n0 num:Nat)(l i:Int)(ea:Option Addr)(en ec:Nat)(p:Bool)(c:Cfg)(s:Ts)(w:World)(hY:aJ w S yb mb n0 c s)(hI:s.Inv c)(hc:c.Ok):
 c_ 76 #[Px yb,.agg #[I 4,I l,.slice ea en ec,I i,.bool p,I num]] w λe w'=>e=.returned (.tuple #[])/\aJ w' (aE S w) yb mb n0 c (s.answer num p)/\ai w w' S:=by
 have F:¬aE S w mb:=aE.not hY.nm.1 hY.nm.2;obtain⟨q,sb,qv,ov,x,h,X⟩:=hY;obtain⟨tl,P,E⟩:=h.z;have K:=AM num (E.later (af w (.cells #[I 4,I l,.slice ea en ec,I i,.bool p,I num] 140))) (E.few hI);unfold ptr at K;have Q:=hd X;have R:=hd E;have HI:=hd hI
 have HR:Hid (∀z∈P,z.2.fails<1048576000):=λz r=>by
  have h1:=E.sm hI z r;have h2:=hc.2.2.2.2.1;have:=h1.fails;omega
 have m:Hid (Bl w (w.alloc (.cells #[I 4,I l,.slice ea en ec,I i,.bool p,I num] 140))):=af _ _;have t:Hid (Bx (w.alloc (.cells #[I 4,I l,.slice ea en ec,I i,.bool p,I num] 140)) w.heap.size 140 #[I 4,I l,.slice ea en ec,I i,.bool p,I num]):=Bx.new _ _ _;clear h E hI hc X;go_enter func76,ntmps76;go_wp2_with fail;go_fit K;rintro e b ⟨f,⟨z,r,o,rfl⟩|⟨W,rfl⟩⟩
 ·have d:Hid (Bl w b):=m.out.trans (f.mono m.out.size);have G:Bx b w.heap.size 140 #[I 4,I l,.slice ea en ec,I i,.bool p,I num]:=(f.block _ t.out.lt).trans t.out;have r4:=G.cell (i:=4) rfl;have u:Hid (aU b S yb mb n0 c s q sb qv ov x tl P):=R.out.later d.out;obtain⟨J,jv,cl,g⟩:=u.out.rest.train.segs z r;obtain⟨j,T,V⟩:=(Sm.runs_iff _ _).1 o;obtain⟨Y,jt,aa,rfl,U,-,-,-,-,-⟩:gJ b S (s.top n0) jv (some j):=T▸g.job;have a:=hd g;have y:Hid (z∈P/\z.2.runs num=true):=⟨r,o⟩
  have H:c_ 119 #[Px z.1,.bool p] b λe w'=>e=.returned (.tuple #[])/\ai b w' (λk=>k=z.1)/\dt w' S (s.top n0) (z.1,z.2.ends p num):=by
   have A:∀w' (f' b':Nat),ai b w' (λk=>k=z.1)->Bx w' z.1 240 (cz J f' b' (.pointer none))->dt w' S (s.top n0) (z.1,{z.2 with fails:=f',by_:=b',job:=none}):=λw' f' b' n B=>by
    have O:ak b w' S [240]:=ak.mk n λk _ e=>by
     subst e;exact⟨a.out.own,240,by simp,a.out.box.ty⟩
    exact⟨J,.pointer none,cl,B,a.out.chs.keptT O.k (λ_ h=>h) (by decide) (by decide),rfl,a.out.own⟩
   cases p with
   |true=>
    refine(rj z.1 Y num z.2.fails z.2.by_ J _ b a.out.box U (by rw[<-V];rfl)).mono ?_;rintro e w' ⟨rfl,B,n⟩;exact⟨rfl,n,A w' z.2.fails num n B⟩
   |false=>
    refine(lI z.1 z.2.fails z.2.by_ J (ptr Y) b a.out.box (HR.out z r)).mono ?_;rintro e w' ⟨rfl,B,n⟩;exact⟨rfl,n,A w' (z.2.fails+1) z.2.by_ n B⟩
  clear g U f K G r o T V;go_wp2_with fail;go_fit H;rintro e Z ⟨rfl,C,D⟩;have M:=yF (pass:=p) u.out HI.out y.out.1 y.out.2 C D
  have L:Hid (aJ Z S yb mb n0 c (s.answer num p)):=by
   obtain⟨⟨ab,N⟩,-⟩:=M;exact N.at Q.out
  have HO:Hid (ai w Z S):=(ak.trans (ts:=[]) (ak.below d.out) M.2 (aE.old w)).only;clear M C D H r4;go_wp2_with fail;exact be_ ⟨rfl,aJ.mono L.out (aE.old w) F,HO.out⟩
 have d:Hid (Bl w b):=m.out.trans (f.mono m.out.size)
 have L:Hid (aJ b S yb mb n0 c (s.answer num p)):=by
  have:=R.out.later d.out;rw[yG this W];exact this.at Q.out
 clear f K W;go_wp2_with fail;exact be_ ⟨rfl,aJ.mono L.out (aE.old w) F,(ak.below (ts:=[]) d.out).only⟩
theorem jd (h:bT es):iA es:=by
 refine⟨h.2.1,λx hx=>?_⟩;have:=h.2.2.1 x hx;simp[iI,jr,cQ,fh] at this;omega
theorem Cv (S:Nat->Prop)(yb mb n0 B:Nat)(c:Cfg)(s:Ts)(r:Rc)(l i q:Nat)(ea:Option Addr)(en ec:Nat)(p:Bool)(w:World)(hY:aJ w S yb mb n0 c s)(hr:s.Can c r)(hI:s.Inv c)(hc:c.Ok)(hi:s.ids.length<1048575000)(hbg:s.begun<1048576000)(hn:s.now<1048576000)(h0:n0<1048576000)(hQ:iF r B w l (.slice ea en ec) i p q):
 c_ 76 #[Px yb,.agg #[I r.kind,I l,.slice ea en ec,I i,.bool p,I q]] w λe w'=>e=.returned (.tuple #[])/\aJ w' (aE S w) yb mb n0 c (s.does c r)/\ai w w' S:=by
 have b:=e_ hI.len hc.2.2.2.2.2.2.2;have k:s.outs.length<=s.ids.length:=by have:=hI.cnt;omega
 obtain⟨rfl,⟨d,rfl,rfl,rfl,g,j,_,f⟩|⟨j,rfl,rfl,rfl,d⟩⟩:=hQ
 ·obtain⟨m,n,v,x,o⟩:=hr.sub d;obtain⟨rfl,rfl,rfl⟩:=Value.slice.inj j;have:=Dr S yb mb n0 r.num r.lane 0 false g 0 r.edits.length r.edits c s w hY b (jd o) m n (by omega) f.1 (λi h=>by rw[O_];exact(f.2.2 i h h).1) (λi h=>by rw[O_];exact(f.2.2 i h h).2.1) (λi h=>by rw[O_];exact(f.2.2 i h h).2.2);unfold pX at this;have e:s.does c r={s with ids:=s.ids++[r.num],queue:=s.queue++[⟨r.num,r.lane,0,s.ids.length,r.edits⟩]}:=by simp[Ts.does,d]
  rw[e];simpa[d] using this
 obtain⟨rfl,rfl,rfl⟩:=Value.slice.inj j;obtain⟨t,u⟩:=hr.kind;have a:r.kind=2\/r.kind=3\/r.kind=4\/r.kind=5\/r.kind=6\/r.kind=7:=by omega
 rcases a with a|a|a|a|a|a
 ·have:=Dt S yb mb n0 r.num c s w hY b (hr.cancel a) (by omega) hI.ack;have e:s.does c r={s with queue:=s.queue.filter λc=>c.id !=r.num,outs:=s.outs++[(r.num,4)]}:=by simp[Ts.does,a]
  rw[e];simpa[a] using this
 ·have:=DI S yb mb n0 0 0 0 none 0 0 false c s w hY hI hc hi h0 hbg hn;have e:s.does c r=s.pump c:=by simp[Ts.does,a]
  rw[e];simpa[a] using this
 ·have:=DH S yb mb n0 r.num 0 0 none 0 0 r.pass c s w hY hI hc;have e:s.does c r=s.answer r.num r.pass:=by simp[Ts.does,a]
  rw[e];simpa[a] using this
 ·have:=DJ S yb mb n0 r.num 0 0 none 0 0 false c s w hY hI hc (hr.tick a).2 hn;have e:s.does c r=s.tick r.num:=by simp[Ts.does,a]
  rw[e];simpa[a] using this
 ·have:=Ds S yb mb n0 r.num c s w hY (hr.ack a);have e:s.does c r={s with acked:=s.acked+1}:=by simp[Ts.does,a]
  rw[e];simpa[a] using this
 have:=DG S yb mb n0 0 0 0 none 0 0 false c s w hY hI;have e:s.does c r=s.lose:=by simp[Ts.does,a]
 rw[e];simpa[a] using this
end
section
variable{br:Bool}{g:ByteArray->ByteArray}{c:Cfg}{keep:Int}{rs:List Rc}{mb n0 rb xb yb:Nat}{Y:Nat->Prop}{s s':Ts}{lv:Value}{w w':World}
def rc7:Rc:=⟨7,0,0,false,[]⟩
theorem yH:rc7.ok:=⟨.inr (.inr (.inr (.inr (.inr (.inl rfl))))),by decide⟩
theorem eE.ok (h:eE c g rs)(hc:c.Ok):∀r∈rs,r.ok:=λr hm=>by
 obtain⟨k,d,rfl⟩:=Q_.1 hm
 have a:=h k d
 refine⟨?_,by have:=a.num;omega⟩
 obtain⟨f,i⟩:=a.kind
 by_cases e:rs[k].kind=1
 ·obtain⟨_,_,_,j,b⟩:=a.sub e
  exact .inl ⟨e,by have:=hc.1.2;omega,jd b⟩
 omega
theorem AV {L:List UInt8}(h:dB w Y xb mb n0 rb yb c s L br keep lv)(hY:aJ w' (aE Y w) yb mb n0 c s')(hO:ai w w' Y):dB w' (kP Y w w') xb mb n0 rb yb c s' L br keep lv:=by
 have f:=hO.size
 have b:∀k,k<w.heap.size->¬Y k->¬kP Y w w' k:=λk a h1 d=>by
  rcases d with d|d
  ·exact h1 d
  omega
 refine⟨h.box.kept hO h.nx,h.run.kept hO h.nr,h.log.kept λg hg=>hO.block g (h.log.lt hg) (h.nl g hg),(hY.tight).mono (λk a=>?_) (b mb h.fm.lt h.apart.2.2.2),b xb h.box.lt h.nx,b rb h.run.lt h.nr,λg hg=>b g (h.log.lt hg) (h.nl g hg),?_,h.fm.kept (hO.block mb h.fm.lt h.apart.2.2.2)⟩
 ·rcases a with ⟨a|a,e⟩
  ·exact .inl a
  exact .inr ⟨a,e⟩
 rintro k (a|a)
 ·have:=h.yl k a;omega
 exact a.2
structure DK (w w':World)(xb mb n0:Nat)(c:Cfg)(s:Ts)(L:List UInt8)(lv:Value):Prop where
 up:∃Y rb yb lv',dB w' Y xb mb n0 rb yb c s L false 0 lv'/\w.heap.size<=rb/\(∀k,Y k->w.heap.size<=k)/\(lv'.ownBlock=lv.ownBlock\/∃g,lv'.ownBlock=some g/\w.heap.size<=g)
 only:ai w w' (λk=>k=xb\/lv.ownBlock=some k)
theorem DL (Y:Nat->Prop)(xb mb n0 rb yb:Nat)(c:Cfg)(s:Ts)(L:List UInt8)(keep:Int)(lv:Value)(w:World)(hU:dB w Y xb mb n0 rb yb c s L false keep lv)(hL:L.length<1099511627776)(hI:s.Inv c):
 c_ 73 #[Px xb,.agg #[I 7,I 0,Zn,I 0,.bool false,I 0]] w λe w'=>e=.returned (I 0)/\BK w w' Y xb mb n0 rb yb c s.lose (L++rc7.bytes) keep lv:=
 vj Y xb mb n0 rb yb c s s.lose L rc7.bytes keep lv 7 0 0 0 false none 0 0 w hU hL (by decide) (λW _=>AC yb W) (λW _=>dE rc7 yH none 0 0 W (λh=>by cases h)) (λW _ hY=>DG Y yb mb n0 0 0 0 none 0 0 false c s W hY hI)
theorem lM:∀{css:List (List Value)},(∀cs∈css,cs.length=6)->∀(k j:Nat) (hk:k<css.length),j<6->css.flatten[k*6+j]? =css[k][j]?
 |[],_,_,_,hk,_=>by simp at hk
 |cs::css,h,0,j,_,hj=>by
  have:=h cs D_
  rw[List.flatten_cons,V_ (by omega)]
  simp
 |cs::css,h,k+1,j,hk,hj=>by
  have a:=h cs D_
  rw[List.flatten_cons,List.getElem?_append_right (by omega)]
  have e:(k+1)*6+j-cs.length=k*6+j:=by omega
  rw[e,lM (λx hx=>h x (List.mem_cons_of_mem _ hx)) k j (by simpa using hk) hj]
  simp
theorem AU (L:List UInt8)(n:Nat):(bc L).take n=bc (L.take n):=by simp[bc,List.map_take]
theorem oG (xb mb n0:Nat)(f:ByteArray->ByteArray)(c:Cfg)(rs:List Rc)(T L:List UInt8)(lv:Value)(w:World)(hD:dH w xb mb c L lv)(hL:L=bq rs++T)(hT:mR T)(hF:eE c f rs)(hc:c.Ok)(hn:rs.length<1048576)(hLn:L.length<1099511627776)(hm:aD w mb n0 f)(h0:n0<1048576000):
 Calls prog 32 #[Px xb] w λe w'=>e=.returned (I 0)/\DK w w' xb mb n0 c (Ts.all c f rs).lose (bq rs++rc7.bytes) lv:=by
 have c9:=hD.box.c 9 (.pointer none);have c8:=hD.box.c 8 lv;have hR:=wh rs T L lv w (hF.ok hc) hT hL (hD.log.bv hLn) (by omega);have HD:=hd hD;have aT:(bq rs).length<=L.length:=by rw[hL,a_];omega
 have aG:Hid (L.take (bq rs).length=bq rs):=by show _=_;rw[hL,List.take_left]
 have aq:Hid ((bq rs).length<1099511627776):=by show _<_;omega
 obtain⟨a,b,rfl⟩:=hD.log.form
 have F:L.length<=b/\b<=maxLen:=by
  rcases hD.log.2 with ⟨D,h0⟩|⟨g,O,R,aZ,D,_,h2,h3,_⟩
  ·injection D with _ _ D;rw[h0,D];exact⟨b_ _,k_ _⟩
  injection D with _ _ D;rw[D];exact⟨h2,h3⟩
 have aO:=F.1;have aQ:b<9223372036854775808:=by have:=F.2;unfold maxLen at this;omega
 generalize an:(bq rs).length=v at *;clear hD hL hT F hLn;go_enter func32,ntmps32;go_wp2_with fail;go_fit hR;rintro e z ⟨⟨rv,K,rfl,au,H⟩,o⟩;obtain⟨va,vc,rfl⟩:=fL H;have d8:=ae o c8;have y:=HD.out.box.later o;have f8:=y.fr 8;have ab:=HD.out.log.later o;clear hR c9 c8;go_wp2_with fail;have aU:(Value.slice a L.length b).ownBlock≠some xb:=ab.ne y (by decide);have aC:(Value.slice a v b).ownBlock≠some xb:=λh=>aU (by cases a<;>first|exact h|(simp[Value.ownBlock] at h));have ao:Bx (z.setCell ⟨xb,8,none⟩ (.slice a v b)) xb 135 (da c mb (.slice a v b) (.pointer none)):=y.set 8 _
 have ap:Sl (z.setCell ⟨xb,8,none⟩ (.slice a v b)) 5 1 (.slice a v b) (bq rs).length (bc (bq rs)):=by
  have h:=ab.cut aT;rw[Nat.mul_one,AU,aG.out] at h;rw[an];exact h.grown (ah _ _ _ _) λg hg e=>aC (by rw[hg];exact e.symm)
 have aV:=o.size;have av:=xY xb mb n0 f c (bq rs) (.slice a v b) none _ ao ap ((hm.same (o.block _ hm.lt)).same ((ah z xb 8 (.slice a v b)).block mb (h_ hm.lt aV) (λe=>by injection e with e;exact absurd ((hm.same (o.block _ hm.lt)).ty.one (e▸y.ty)) (by decide))));have N:ai z (z.setCell ⟨xb,8,none⟩ (.slice a v b)) (λk=>k=xb):=(ai.refl _ _).set (.inl rfl);have ac:=hd y;have Q:Hid (Sl z 140 6 (.slice va rs.length vc) rs.length K.flatten):=Sl.of_row H;have aa:=hd au;have ad:=hd o;have Z:Hid ((Value.slice a L.length b).ownBlock=(Value.slice a v b).ownBlock):=by cases a<;>rfl
 generalize z.setCell ⟨xb,8,none⟩ (.slice a v b)=w2 at *;clear y ab ao ap H au o d8 f8;go_fit av;rintro e w3 ⟨rfl,⟨Y,A,J,aw,aF,ax⟩,ar⟩;have HI:Hid (∃r,dB w3 r xb mb n0 A J c (Ts.all c f (rs.take 0)) (bq rs) false 0 (.slice a v b)/\∀q,r q->z.heap.size<=q):=⟨Y,aw,λq x=>e_ N.size (ax q x)⟩;have HO:Hid (ai z w3 (λk=>k=xb)):=N.trans ar λ_ h=>.inl h;have aI:Hid (z.heap.size<=A):=e_ N.size aF;clear aw aF ax ar N av;go_wp2_with fail;go_loopw [33] (λiv wr=>∃k:Nat,k<=rs.length/\iv=I k/\Hid (ai z wr (λk=>k=xb))/\Hid (∃r,dB wr r xb mb n0 A J c (Ts.all c f (rs.take k)) (bq rs) false 0 (.slice a v b)/\∀q,r q->z.heap.size<=q)) (λi _=>rs.length-(intOf i).toNat)
 case atStart=>exact⟨0,k_ _,rfl,HO,HI⟩
 obtain⟨k,hk,rfl,n,M⟩:=hrel;clear HO HI;by_cases hlk:k<rs.length
 ·have az:k<K.length:=by rw[aa.out.len];exact hlk
  obtain⟨l,U,X,V,i,p,q,aA,hQ⟩:=aa.out.each k hlk az;obtain⟨g,O,R,hv,_⟩:=Q.out.addr (by omega);have hS:Hid (Sl z 140 6 (.slice (some ⟨g,O,none⟩) rs.length R) rs.length K.flatten):=by have:=Q.out;rw[hv] at this;exact this
  injection hv with hva _ hvc;subst hva hvc;have aR:g≠xb:=λe=>hS.out.ne ac.out (by decide) (by rw[e];rfl)
  have kk:∀j (u:Value),j<6->K[k][j]? =some u->wr.cell? ⟨g,O+k*6+j,none⟩=some u:=λj u hj hu=>by
   have:=hS.out.cell (j:=k*6+j) (u:=u) (by rw[lM (gK.flat aa.out) k j az hj];exact hu);rw[J_];exact bz n.out aR this
  rw[aA] at kk;have d0:wr.cell? ⟨g,O+k*6,none⟩=some (I rs[k].kind):=kk 0 _ (by decide) rfl;have d1:=kk 1 (I l) (by decide) rfl;have d2:=kk 2 (.slice U X V) (by decide) rfl;have d3:=kk 3 (I i) (by decide) rfl;have d4:=kk 4 (.bool p) (by decide) rfl;have d5:=kk 5 (I q) (by decide) rfl;obtain⟨r,hU,E⟩:=M.out;have P:=hd hU;have C:=hd E;have G:=((hF.take k).inv hc).2;rw[l_,U_ hk] at G;have B:=hd G
  have ag:Hid (∀W,Bl wr W->Calls prog 76 #[Px J,.agg #[I rs[k].kind,I l,.slice U X V,I i,.bool p,I q]] W λe W'=>e=.returned (.tuple #[])/\aJ W' (aE r W) J mb n0 c (Ts.all c f (rs.take (k+1)))/\ai W W' r):=λW hW=>by
   rw[Ts.step_at hlk];refine Cv r J mb n0 w.heap.size c _ rs[k] l i q U X V p W (P.out.yard.later hW) (hF k hlk) ((hF.take k).inv hc).1 hc (Nat.lt_of_le_of_lt B.out.ids (by omega)) (Nat.lt_of_le_of_lt B.out.begun (by omega)) (Nat.lt_of_le_of_lt B.out.now (by omega)) h0 (hQ.kept (e_ n.out.size hW.size) λg' s hs=>?_);have aB:=aP hs;rw[hW.block g' (h_ aB n.out.size)];refine n.out.block g' aB λe=>?_;rw[e,ac.out.cell (i:=0) rfl] at hs;cases hs
  clear hU E hQ aA kk G M;generalize rs[k].kind=r0 at *;have ak:Hid (Bx wr A 137 (dA J false 0)):=P.out.run;have al:Hid (Bx wr xb 135 (da c mb (.slice a v b) (Px A))):=P.out.box;go_wp2_with fail;have t:=Bx.new wr #[I r0,I l,.slice U X V,I i,.bool p,I q] 140;have d:Hid (Bl wr (wr.alloc (.cells #[I r0,I l,.slice U X V,I i,.bool p,I q] 140))):=af _ _;generalize wr.alloc (.cells #[I r0,I l,.slice U X V,I i,.bool p,I q] 140)=w0 at *;have c9:w0.cell? ⟨xb,9,none⟩=some (Px A):=(al.out.later d.out).cell (i:=9) rfl;have aX:w0.cell? ⟨A,0,none⟩=some (Px J):=(ak.out.later d.out).cell (i:=0) rfl;have x0:=t.c 0 (I r0);have x1:=t.c 1 (I l);have x2:=t.c 2 (.slice U X V);have x3:=t.c 3 (I i);have x4:=t.c 4 (.bool p);have x5:=t.c 5 (I q);have nX:Hid (¬r xb):=P.out.nx;have nR:Hid (¬r A):=P.out.nr;have nB:Hid (¬r wr.heap.size):=λh=>Nat.lt_irrefl _ (P.out.yl _ h);have aK:=ag.out w0.drew ⟨d.out.os,d.out.tape,d.out.output,d.out.size,d.out.block⟩;clear t ag d0 d1 d2 d3 d4 d5 ak al;go_region_held_law (λw'=>w'.cell? ⟨xb,9,none⟩=some (Px A)/\w'.cell? ⟨A,0,none⟩=some (Px J)/\w'.cell? ⟨wr.heap.size,0,none⟩=some (I r0)/\w'.cell? ⟨wr.heap.size,1,none⟩=some (I l)/\w'.cell? ⟨wr.heap.size,2,none⟩=some (.slice U X V)/\w'.cell? ⟨wr.heap.size,3,none⟩=some (I i)/\w'.cell? ⟨wr.heap.size,4,none⟩=some (.bool p)/\w'.cell? ⟨wr.heap.size,5,none⟩=some (I q)) (go_keep) ((go_at_call 76;refine aK.mono ?_;rintro e w5 ⟨rfl,ay,m⟩;have aY:=bz m nX.out c9;have a3:=bz m nR.out aX;have v0:=bz m nB.out x0;have v1:=bz m nB.out x1;have v2:=bz m nB.out x2;have v3:=bz m nB.out x3;have v4:=bz m nB.out x4;have v5:=bz m nB.out x5;have aH:=hd ay;have aj:=hd m;clear ay m))
  all_goals
   go_wp2_with fail;refine⟨⟨k+1,hlk,by go_num,?_,?_⟩,by simp[intOf];omega⟩
   ·exact(n.out.trans (ai.of_below (S:=λ_=>False) d.out) λ_ h=>h.elim).trans aj.out.drew λq x=>.inr (C.out q x)
   have a0:=d.out.size;have a1:=n.out.size;refine⟨kP r w0 w5,AV (fQ P.out d.out) aH.out aj.out.drew,λq x=>?_⟩;rcases x with x|x
   ·exact C.out q x
   omega
 obtain rfl:k=rs.length:=by omega
 obtain⟨r,hU,E⟩:=M.out;rw[W_] at hU;have hA:=DL r xb mb n0 A J c (Ts.all c f rs) (bq rs) 0 (.slice a v b) wr hU (by rw[an];exact aq.out) (hF.inv hc).1;have P:=hd hU;have C:=hd E;clear hU E M;go_wp2_with fail;go_fit hA;rintro e w6 ⟨rfl,am⟩;have HA:=hd am;clear am hA;go_wp2_with fail;go_ret;obtain⟨⟨Y6,aW,aM,aN,aS⟩,aL⟩:=HA.out;have D:=ad.out.size;have h2:=n.out.size;refine⟨rfl,⟨Y6,A,J,aW,aM,e_ D aI.out,λq x=>?_,?_⟩,?_⟩
 ·rcases aN q x with h|h
  ·exact e_ D (C.out q h)
  omega
 ·rw[Z.out];rcases aS with h|⟨g6,h,a2⟩
  ·exact .inl h
  exact .inr ⟨g6,h,by omega⟩
 refine((ai.of_below ad.out).trans n.out λq x=>.inl (.inl x)).trans aL λq x=>?_;rcases x with h|h|h
 ·exact .inr (e_ D (C.out q h))
 ·exact .inl (.inl h)
 exact .inl (.inr (by rw[Z.out];exact h))
section
attribute [local go_sem] Oper.semAt_some
theorem AY (yb:Nat)(w:World):
 c_ 110 #[Px yb,.agg #[I 3,I 0,Zn,I 0,.bool false,I 0]] w λe w'=>e=.returned (I 0)/\Bl w w':=by
 go_enter func110,ntmps110;go_wp2_with fail;go_ret;exact⟨rfl,af _ _⟩
theorem AW (yb:Nat)(m:Int)(w:World):
 c_ 110 #[Px yb,.agg #[I 5,I 0,Zn,I 0,.bool false,I m]] w λe w'=>(((1<=m/\m<=1000)/\e=.returned (I 0))\/((¬(1<=m/\m<=1000))/\e=.returned (I 7)))/\Bl w w':=by
 by_cases h1:m<1
 ·have a:Hid (¬(1<=m/\m<=1000)):=by
   show ¬_;omega
  generalize (1<=m/\m<=1000)=P at a ⊢;go_enter func110,ntmps110;go_wp2_with fail;go_ret;exact⟨.inr ⟨a.out,rfl⟩,af _ _⟩
 by_cases h2:1000<m
 ·have a:Hid (¬(1<=m/\m<=1000)):=by
   show ¬_;omega
  generalize (1<=m/\m<=1000)=P at a ⊢;go_enter func110,ntmps110;go_wp2_with fail;go_ret;exact⟨.inr ⟨a.out,rfl⟩,af _ _⟩
 have a:Hid (1<=m/\m<=1000):=by
  show _/\_;omega
 generalize (1<=m/\m<=1000)=P at a ⊢;go_enter func110,ntmps110;go_wp2_with fail;go_ret;exact⟨.inl ⟨a.out,rfl⟩,af _ _⟩
theorem AX (S:Nat->Prop)(yb mb n0:Nat)(c:Cfg)(s:Ts)(num:Int)(p:Bool)(w:World)(hY:aJ w S yb mb n0 c s)(hI:s.Inv c):
 c_ 110 #[Px yb,.agg #[I 4,I 0,Zn,I 0,.bool p,I num]] w λe w'=>(((∃x∈s.segs,x.runsI num=true)/\e=.returned (I 0))\/((¬∃x∈s.segs,x.runsI num=true)/\e=.returned (I 6)))/\Bl w w':=by
 obtain⟨q,r,o,n,x,h,m⟩:=hY;obtain⟨t,v,g⟩:=h.z;have f:=rm num (g.later (af w (.cells #[I 4,I 0,Zn,I 0,.bool p,I num] 140))) (g.few hI);unfold ptr at f;have b:=hd (g.rest.train.snd);clear h g hI m;go_enter func110,ntmps110;go_wp2_with fail;go_fit f;rintro e u ⟨a,⟨z,i,d,rfl⟩|⟨l,rfl⟩⟩
 ·have j:=hd ((af _ _).trans (a.mono (by simp)));have k:Hid (∃x∈s.segs,x.runsI num=true):=⟨z.2,by rw[<-b.out];exact x_ i,d⟩;clear a f i d;go_wp2_with fail;go_ret;exact⟨.inl ⟨k.out,rfl⟩,j.out⟩
 have j:=hd ((af _ _).trans (a.mono (by simp)))
 have k:Hid (¬∃x∈s.segs,x.runsI num=true):=λ⟨y,hy,hyr⟩=>by
  rw[<-b.out] at hy;obtain⟨z,i,rfl⟩:=q_.1 hy;rw[l z i] at hyr;cases hyr
 clear a f l;go_wp2_with fail;go_ret;exact⟨.inr ⟨k.out,rfl⟩,j.out⟩
end
end
section
variable{g:ByteArray->ByteArray}{c:Cfg}{err:Int}{n xb:Nat}{S X:Nat->Prop}{r:Rc}{s:Ts}{w w':World}
structure Sg where
 rs:List Rc
 up:Bool
 T:List UInt8
 br:Bool
 keep:Int
def Sg.write (σ:Sg)(r:Rc):Int×Sg:=
 if σ.br=false then (0,{σ with rs:=σ.rs++[r]})
 else (8,if (r.bytes.length:Int)<=σ.keep then {σ with rs:=σ.rs++[r],up:=false,T:=[],br:=false} else {σ with up:=false,T:=r.bytes.take σ.keep.toNat,br:=false})
def Sg.act (σ:Sg)(err:Int)(r:Rc):Int×Sg:=if σ.up=false then (8,σ) else if err≠0 then (err,σ) else σ.write r
structure Sg.Ok (c:Cfg)(g:ByteArray->ByteArray)(σ:Sg):Prop where
 fits:eE c g σ.rs
 torn:mR σ.T
 upT:σ.up=true->σ.T=[]
 downB:σ.up=false->σ.br=false
theorem kj:mR []:=⟨rc7,0,yH,by omega,by simp⟩
theorem Rc.bytes_len (r:Rc):r.bytes.length=9+r.body.length:=by rw[Rc.bytes_eq,eG]
theorem kU (rs:List Rc)(r:Rc):bq (rs++[r])=bq rs++r.bytes:=by simp[bq]
theorem iQ:∀{rs:List Rc},(∀r∈rs,r.ok)->(bq rs).length<=rs.length*1009
 |[],_=>by simp[bq]
 |r::rs,h=>by
  have h1:=iQ (rs:=rs) λx hx=>h x (List.mem_cons_of_mem _ hx)
  have a:=Rc.body_lt (h r D_)
  have b:=r.bytes_len
  rw[bq,F_,a_,List.length_cons]
  have:(rs.flatMap Rc.bytes).length=(bq rs).length:=rfl
  omega
theorem Ts.Can.ok (hr:s.Can c r)(hc:c.Ok):r.ok:=by
 refine⟨?_,by have:=hr.num;omega⟩;obtain⟨b,d⟩:=hr.kind;by_cases e:r.kind=1
 ·obtain⟨_,_,_,f,a⟩:=hr.sub e;exact .inl ⟨e,by have:=hc.1.2;omega,jd a⟩
 omega
theorem Sg.Ok.write {σ:Sg}(h:σ.Ok c g)(hc:c.Ok)(hu:σ.up=true)(hr:(Ts.all c g σ.rs).Can c r):(σ.write r).2.Ok c g:=by
 unfold Sg.write;split
 ·exact⟨.snoc h.fits hr,h.torn,h.upT,λh'=>by rw[hu] at h';cases h'⟩
 show Sg.Ok c g (if _ then _ else _);split
 ·exact⟨.snoc h.fits hr,kj,λh'=>(by cases h'),λ_=>rfl⟩
 rename_i hk;refine⟨h.fits,⟨r,σ.keep.toNat,hr.ok hc,?_,by rw[Rc.bytes_eq]⟩,λh'=>(by cases h'),λ_=>rfl⟩;rw[r.bytes_len] at hk;omega
theorem Sg.Ok.act {σ:Sg}(h:σ.Ok c g)(hc:c.Ok)(hr:err=0->(Ts.all c g σ.rs).Can c r):(σ.act err r).2.Ok c g:=by
 unfold Sg.act;split
 ·exact h
 split
 ·exact h
 rename_i h1 h2;exact h.write hc (by simpa using h1) (hr (by simpa using h2))
structure iB (w w':World)(X X':Nat->Prop):Prop where
 only:ai w w' X
 sub:∀k,X' k->X k\/w.heap.size<=k
theorem iB.of_below (h:Bl w w'):iB w w' X X:=⟨ai.of_below h,λ_ h=>.inl h⟩
structure PUp (w:World)(X:Nat->Prop)(xb:Nat)(c:Cfg)(rs:List Rc)(br:Bool)(keep:Int)(n:Nat)(g:ByteArray->ByteArray):Prop where
 ex:∃mb lv Y rb yb keep',aD w mb n g/\dB w Y xb mb n rb yb c (Ts.all c g rs) (bq rs) br keep' lv/\(br=true->keep'=keep)/\X mb/\X rb/\(∀k,Y k->X k)/\(∀q,lv.ownBlock=some q->X q)/\¬Y mb/\mb≠xb/\mb≠rb
 fx:X xb
 xl:∀k,X k->k<w.heap.size
structure vv (w:World)(X:Nat->Prop)(xb:Nat)(c:Cfg)(rs:List Rc)(T:List UInt8)(n:Nat)(g:ByteArray->ByteArray):Prop where
 ex:∃mb lv,aD w mb n g/\dH w xb mb c (bq rs++T) lv/\X mb/\(∀q,lv.ownBlock=some q->X q)/\mb≠xb
 fx:X xb
 xl:∀k,X k->k<w.heap.size
def bd (w:World)(X:Nat->Prop)(xb:Nat)(c:Cfg)(σ:Sg)(n:Nat)(g:ByteArray->ByteArray):Prop:=
 (σ.up=true/\PUp w X xb c σ.rs σ.br σ.keep n g)\/(σ.up=false/\vv w X xb c σ.rs σ.T n g)
theorem PUp.kept {rs:List Rc}{br:Bool}{keep:Int}(h:PUp w X xb c rs br keep n g)(hs:w.heap.size<=w'.heap.size)(hk:∀k,X k->w'.heap[k]? =w.heap[k]?):PUp w' X xb c rs br keep n g:=by
 obtain⟨f,s,Y,m,t,b,p,a,r,d,i,j,l,o⟩:=h.ex;exact⟨⟨f,s,Y,m,t,b,p.same (hk f d),⟨(hk xb h.fx).trans a.box,(hk m i).trans a.run,a.log.kept λq hq=>hk q (l q hq),a.yard.kept hs λk _ hY=>hk k (hY.elim (j k) λe=>by rw[e];exact d),a.nx,a.nr,a.nl,λk hY=>h_ (a.yl k hY) hs,a.fm.kept (hk f d)⟩,r,d,i,j,l,o⟩,h.fx,λk hX=>h_ (h.xl k hX) hs⟩
theorem vv.kept {rs:List Rc}{T:List UInt8}(h:vv w X xb c rs T n g)(hs:w.heap.size<=w'.heap.size)(hk:∀k,X k->w'.heap[k]? =w.heap[k]?):vv w' X xb c rs T n g:=by
 obtain⟨e,j,i,d,a,b,f⟩:=h.ex;exact⟨⟨e,j,i.same (hk e a),⟨(hk xb h.fx).trans d.box,d.log.kept λq hq=>hk q (b q hq)⟩,a,b,f⟩,h.fx,λk hX=>h_ (h.xl k hX) hs⟩
theorem bd.xl {σ:Sg}(h:bd w X xb c σ n g):∀k,X k->k<w.heap.size:=by
 rcases h with ⟨_,h⟩|⟨_,h⟩
 ·exact h.xl
 exact h.xl
theorem bd.kept {σ:Sg}(h:bd w X xb c σ n g)(hs:w.heap.size<=w'.heap.size)(hk:∀k,X k->w'.heap[k]? =w.heap[k]?):bd w' X xb c σ n g:=by
 rcases h with ⟨a,h⟩|⟨a,h⟩
 ·exact .inl ⟨a,h.kept hs hk⟩
 exact .inr ⟨a,h.kept hs hk⟩
theorem bd.later {σ:Sg}(h:bd w X xb c σ n g)(hb:Bl w w'):bd w' X xb c σ n g:=h.kept hb.size λk hk=>hb.block k (h.xl k hk)
theorem bd.only {σ:Sg}(h:bd w X xb c σ n g)(hO:ai w w' S)(hn:∀k,X k->¬S k):bd w' X xb c σ n g:=h.kept hO.size λk hk=>hO.block k (h.xl k hk) (hn k hk)
def ki (w w':World)(e:Ending)(X:Nat->Prop)(xb:Nat)(c:Cfg)(n:Nat)(g:ByteArray->ByteArray)(a:Int×Sg):Prop:=e=.returned (I a.1)/\∃X',bd w' X' xb c a.2 n g/\iB w w' X X'
theorem ki.same {k:Int}{σ:Sg}(h:bd w X xb c σ n g)(hb:Bl w w'):ki w w' (.returned (I k)) X xb c n g (k,σ):=⟨rfl,X,h.later hb,iB.of_below hb⟩
theorem wI (X:Nat->Prop)(xb:Nat)(c:Cfg)(σ:Sg)(n:Nat)(g:ByteArray->ByteArray)(kind lane id num:Int)(pass:Bool)(ea:Option Addr)(en ec:Nat)(r:Rc)(err:Int)(w:World)(hP:bd w X xb c σ n g)(hσ:σ.Ok c g)(hc:c.Ok)(hn:σ.rs.length<1048576)(hcan:err=0->(Ts.all c g σ.rs).Can c r)(hC:∀W Y yb mb,Bl w W->aJ W Y yb mb n c (Ts.all c g σ.rs)->c_ 110 #[Px yb,.agg #[I kind,I lane,.slice ea en ec,I id,.bool pass,I num]] W λe W'=>e=.returned (I err)/\Bl W W')(hY:err=0->∀W,Bl w W->c_ 112 #[.agg #[I kind,I lane,.slice ea en ec,I id,.bool pass,I num]] W λe W'=>∃v',e=.returned v'/\eW W W' v' r.bytes)(hD:err=0->∀W Y yb mb,ai w W X->aJ W Y yb mb n c (Ts.all c g σ.rs)->c_ 76 #[Px yb,.agg #[I kind,I lane,.slice ea en ec,I id,.bool pass,I num]] W λe W'=>e=.returned (.tuple #[])/\aJ W' (aE Y W) yb mb n c ((Ts.all c g σ.rs).does c r)/\ai W W' Y):
 c_ 73 #[Px xb,.agg #[I kind,I lane,.slice ea en ec,I id,.bool pass,I num]] w λe w'=>ki w w' e X xb c n g (σ.act err r):=by
 have aa:=iQ (hσ.fits.ok hc);rcases hP with ⟨p,hP⟩|⟨p,hP⟩
 ·have L:bd w X xb c σ n g:=.inl ⟨p,hP⟩;obtain⟨mb,x,Y,H,yb,d,B,s,F,M,V,R,y,S,K,Z⟩:=hP.ex;by_cases he:err=0
  ·subst he;have A:=hcan rfl;have ab:=Rc.body_lt (A.ok hc);have U:=r.bytes_len
   have f:∀{w':World},ai w w' (λk=>Y k\/k=xb\/x.ownBlock=some k)->aD w' mb n g:=λo=>B.same (o.block mb B.lt (λe=>by
    rcases e with e|e|e
    ·exact S e
    ·exact K e
    exact B.ne_sl s.log e))
   have z:∀W,Bl w W->c_ 110 #[Px yb,.agg #[I kind,I lane,.slice ea en ec,I id,.bool pass,I num]] W λe W'=>e=.returned (I 0)/\Bl W W':=λW hW=>hC W Y yb mb hW (s.yard.later hW);by_cases j:σ.br=false
   ·have b:σ.act 0 r=(0,{σ with rs:=σ.rs++[r]}):=by simp[Sg.act,Sg.write,p,j]
    rw[b];rw[j] at s;refine(vj Y xb mb n H yb c _ ((Ts.all c g σ.rs).does c r) _ r.bytes d x kind lane id num pass ea en ec w s (by omega) (by omega) z (hY rfl) (λW o hYd=>hD rfl W Y yb mb (o.mono λk a=>?_) hYd)).mono ?_
    ·rcases a with a|a
     ·rw[a];exact hP.fx
     exact y k a
    rintro e w' ⟨rfl,⟨Q,i,t,E,v⟩,o⟩;have hs:=o.size;refine⟨rfl,kP X w w',.inl ⟨p,⟨⟨mb,i,Q,H,yb,d,f o,?_,?_,.inl M,.inl V,λk a=>?_,λq hq=>?_,λh=>?_,K,Z⟩,.inl hP.fx,?_⟩⟩,o.mono λk a=>?_,λk a=>?_⟩
    ·show dB w' Q xb mb n H yb c (Ts.all c g (σ.rs++[r])) (bq (σ.rs++[r])) σ.br d i;rw[Ts.all_snoc,kU,j];exact t
    ·exact F
    ·rcases E k a with h|h
     ·exact .inl (R k h)
     exact .inr ⟨h,t.yl k a⟩
    ·rcases v with h|⟨q',h,P⟩
     ·rw[h] at hq;exact .inl (y q hq)
     exact .inr ⟨by rw[h] at hq;cases hq;exact P,t.log.lt hq⟩
    ·rcases E mb h with h|h
     ·exact S h
     have:=B.lt;omega
    ·rintro k (a|a)
     ·have:=hP.xl k a;omega
     exact a.2
    ·rcases a with a|a|a
     ·exact R k a
     ·rw[a];exact hP.fx
     exact y k a
    exact a.imp (λh=>h) (λh=>h.1)
   have j:σ.br=true:=by simpa using j
   have O:=F j;rw[j] at s;subst O;obtain⟨k,a⟩:∃k:Nat,(k:Int)=max 0 (min σ.keep r.bytes.length):=⟨(max 0 (min σ.keep r.bytes.length)).toNat,by omega⟩;refine(AF Y xb mb n H yb c _ _ r.bytes σ.keep x kind lane id num pass ea en ec w s (by omega) (by omega) z (hY rfl) k a).mono ?_;rintro e w' ⟨rfl,⟨i,m,v⟩,o⟩;have hs:=o.size;have C:ai w w' (λk=>Y k\/k=xb\/x.ownBlock=some k):=o.mono λk a=>.inr a
   have D:ai w w' X:=o.mono λk a=>by
    rcases a with a|a
    ·rw[a];exact hP.fx
    exact y k a
   have G:∀q,i.ownBlock=some q->kP X w w' q:=λq hq=>by
    rcases v with h|⟨q',h,P⟩
    ·rw[h] at hq;exact .inl (y q hq)
    exact .inr ⟨by rw[h] at hq;cases hq;exact P,m.log.lt hq⟩
   have l:∀k,kP X w w' k->k<w'.heap.size:=by
    rintro k (a|a)
    ·have:=hP.xl k a;omega
    exact a.2
   have J:∀k,kP X w w' k->X k\/w.heap.size<=k:=λk a=>a.imp (λh=>h) (λh=>h.1);by_cases hkl:(r.bytes.length:Int)<=σ.keep
   ·have b:σ.act 0 r=(8,{σ with rs:=σ.rs++[r],up:=false,T:=[],br:=false}):=by simp[Sg.act,Sg.write,p,j,hkl]
    rw[b];have u:k=r.bytes.length:=by omega
    rw[u,W_] at m;refine⟨rfl,kP X w w',.inr ⟨rfl,⟨⟨mb,i,f C,?_,.inl M,G,K⟩,.inl hP.fx,l⟩⟩,D,J⟩;show dH w' xb mb c (bq (σ.rs++[r])++[]) i;rw[kU,T_];exact m
   have b:σ.act 0 r=(8,{σ with up:=false,T:=r.bytes.take σ.keep.toNat,br:=false}):=by simp[Sg.act,Sg.write,p,j,hkl]
   rw[b];have u:k=σ.keep.toNat:=by omega
   rw[u] at m;exact⟨rfl,kP X w w',.inr ⟨rfl,⟨⟨mb,i,f C,m,.inl M,G,K⟩,.inl hP.fx,l⟩⟩,D,J⟩
  have b:σ.act err r=(err,σ):=by simp[Sg.act,p,he]
  rw[b];refine(AE Y xb mb n H yb c _ _ σ.br d x kind lane id num pass ea en ec err he w s (λW hW=>hC W Y yb mb hW (s.yard.later hW))).mono ?_;rintro e w' ⟨rfl,j⟩;exact .same L j
 have b:σ.act err r=(8,σ):=by simp[Sg.act,p]
 rw[b];have L:bd w X xb c σ n g:=.inr ⟨p,hP⟩;obtain⟨mb,x,B,N,_⟩:=hP.ex;refine(wu xb mb c _ x kind lane id num pass ea en ec w N).mono ?_;rintro e w' ⟨rfl,j⟩;exact .same L j
variable{pass:Bool}{e':Int}{es:List Ed}{rs:List Rc}
def Sg.cancel (σ:Sg)(id:Int)(err:Int):Int×Sg:=σ.act err ⟨2,0,id.toNat,false,[]⟩
def Sg.ack (σ:Sg)(m:Int)(err:Int):Int×Sg:=σ.act err ⟨6,0,m.toNat,false,[]⟩
def Sg.sub (σ:Sg)(id lane:Int)(es:List Ed)(err:Int):Int×Sg:=σ.act err ⟨1,lane.toNat,id.toNat,false,es⟩
def Sg.brk (σ:Sg)(k:Int):Int×Sg:=if σ.up=false then (8,σ) else (0,{σ with br:=true,keep:=k})
def Sg.crash (σ:Sg):Int×Sg:=if σ.up=false then (8,σ) else (0,{σ with up:=false,T:=[],br:=false})
def Sg.recover (σ:Sg):Int×Sg:=if σ.up=false then (0,{σ with rs:=σ.rs++[rc7],up:=true,T:=[],br:=false}) else (9,σ)
def kX (s:Ts)(id err:Int):Prop:=((∃x∈s.queue,(x.id:Int)=id)/\err=0)\/((¬∃x∈s.queue,(x.id:Int)=id)/\err=5)
def iq (s:Ts)(m err:Int):Prop:=((s.acked<s.outs.length/\m=(s.acked:Int)+1)/\err=0)\/((¬(s.acked<s.outs.length/\m=(s.acked:Int)+1))/\err=5)
theorem AZ (s:Ts)(id:Int):∃err,kX s id err:=by
 by_cases h:∃x∈s.queue,(x.id:Int)=id
 ·exact⟨0,.inl ⟨h,rfl⟩⟩
 exact⟨5,.inr ⟨h,rfl⟩⟩
theorem A7 (s:Ts)(m:Int):∃err,iq s m err:=by
 by_cases h:s.acked<s.outs.length/\m=(s.acked:Int)+1
 ·exact⟨0,.inl ⟨h,rfl⟩⟩
 exact⟨5,.inr ⟨h,rfl⟩⟩
theorem A9 (c:Cfg)(s:Ts)(id lane:Int)(es:List Ed):∃err,dc c s id lane es err:=by
 by_cases h1:iG c id lane es
 ·by_cases h2:id.toNat∈s.ids
  ·exact⟨3,.inr (.inl ⟨h1,h2,rfl⟩)⟩
  by_cases h3:c.queue<=s.queue.length
  ·exact⟨4,.inr (.inr (.inl ⟨h1,h2,h3,rfl⟩))⟩
  exact⟨0,.inr (.inr (.inr ⟨h1,h2,by omega,rfl⟩))⟩
 exact⟨2,.inl ⟨h1,rfl⟩⟩
theorem km {id:Int}(h:kX (Ts.all c g rs) id err)(hI:(Ts.all c g rs).Inv c)(he:err=0):(Ts.all c g rs).Can c ⟨2,0,id.toNat,false,[]⟩/\id=(id.toNat:Int):=by
 rcases h with ⟨⟨x,a,b⟩,_⟩|⟨_,h⟩
 ·have d:=(hI.top x a).2.2.2.1;have e:id=(id.toNat:Int):=by omega
  exact⟨⟨by simp,by simp;omega,λh=>(by cases h),λ_=>⟨x,a,by simp;omega⟩,λh=>(by cases h),λh=>(by cases h),λh=>(by cases h)⟩,e⟩
 omega
theorem kq {m:Int}(h:iq (Ts.all c g rs) m err)(hl:(Ts.all c g rs).outs.length<1048576000)(he:err=0):(Ts.all c g rs).Can c ⟨6,0,m.toNat,false,[]⟩/\m=(m.toNat:Int):=by
 rcases h with ⟨⟨a,b⟩,_⟩|⟨_,h⟩
 ·exact⟨⟨by simp,by simp;omega,λh=>(by cases h),λh=>(by cases h),λh=>(by cases h),λh=>(by cases h),λ_=>a⟩,by omega⟩
 omega
theorem ko {id lane:Int}(h:dc c (Ts.all c g rs) id lane es err)(he:err=0):(Ts.all c g rs).Can c ⟨1,lane.toNat,id.toNat,false,es⟩/\id=(id.toNat:Int)/\lane=(lane.toNat:Int)/\iA es:=by
 subst he;rcases h with ⟨_,h⟩|⟨_,_,h⟩|⟨_,_,_,h⟩|⟨⟨f,i,j,k,a⟩,b,d,_⟩
 ·omega
 ·omega
 ·omega
 have e:=jd a;exact⟨⟨by simp,by simp;omega,λ_=>⟨by simp;omega,b,d,by simp;omega,a⟩,λh=>(by cases h),λh=>(by cases h),λh=>(by cases h),λh=>(by cases h)⟩,by omega,by omega,e⟩
theorem mi {id e:Int}(h:kX s id e)(h':kX s id e'):e=e':=by
 rcases h with ⟨h,rfl⟩|⟨h,rfl⟩<;>rcases h' with ⟨h',rfl⟩|⟨h',rfl⟩<;>first|rfl|exact absurd h h'|exact absurd h' h
theorem ks {id e:Int}(h:iq s id e)(h':iq s id e'):e=e':=by
 rcases h with ⟨h,rfl⟩|⟨h,rfl⟩<;>rcases h' with ⟨h',rfl⟩|⟨h',rfl⟩<;>first|rfl|exact absurd h h'|exact absurd h' h
theorem qn {id lane:Int}{e:Int}(h:dc c s id lane es e)(h':dc c s id lane es e'):e=e':=by
 unfold dc at h h';rcases h with ⟨a,rfl⟩|⟨a,b,rfl⟩|⟨a,b,d,rfl⟩|⟨a,b,d,rfl⟩<;>rcases h' with ⟨f,rfl⟩|⟨f,g,rfl⟩|⟨f,g,i,rfl⟩|⟨f,g,i,rfl⟩<;>first|rfl|exact absurd a f|exact absurd f a|exact absurd b g|exact absurd g b|omega
theorem DS (c:Cfg)(s:Ts)(id:Nat):s.does c ⟨2,0,id,false,[]⟩={s with queue:=s.queue.filter λc=>c.id !=id,outs:=s.outs++[(id,4)]}:=by simp[Ts.does]
theorem yL (c:Cfg)(s:Ts)(id:Nat):s.does c ⟨6,0,id,false,[]⟩={s with acked:=s.acked+1}:=by simp[Ts.does]
theorem DR (c:Cfg)(s:Ts)(id lane:Nat)(es:List Ed):s.does c ⟨1,lane,id,false,es⟩={s with ids:=s.ids++[id],queue:=s.queue++[⟨id,lane,0,s.ids.length,es⟩]}:=by simp[Ts.does]
theorem A8 (X:Nat->Prop)(xb:Nat)(c:Cfg)(σ:Sg)(n:Nat)(g:ByteArray->ByteArray)(id err:Int)(w:World)(hP:bd w X xb c σ n g)(hσ:σ.Ok c g)(hc:c.Ok)(hn:σ.rs.length<1048576)(he:kX (Ts.all c g σ.rs) id err):
 c_ 40 #[Px xb,I id] w λe w'=>ki w w' e X xb c n g (σ.cancel id err):=by
 obtain⟨f,i⟩:=hσ.fits.inv hc;have k:=i.ids;have j:=f.cnt;have b:=e_ f.len hc.2.2.2.2.2.2.2;refine tz xb id _ (λw'=>∃X',bd w' X' xb c (σ.cancel id err).2 n g/\iB w w' X X') w (wI X xb c σ n g 2 0 id 0 false none 0 0 ⟨2,0,id.toNat,false,[]⟩ err w hP hσ hc hn (λh=>(km he f h).1) ?_ ?_ ?_)
 ·intro W Y yb mb _ hY;refine(AB Y yb mb n c _ id W hY b).mono ?_;rintro e m ⟨h,l⟩;refine⟨?_,l⟩;rcases h with ⟨h,rfl⟩|⟨h,rfl⟩
  ·rw[mi he (.inl ⟨h,rfl⟩)]
  rw[mi he (.inr ⟨h,rfl⟩)]
 ·intro h0 W _;obtain⟨a,d⟩:=km he f h0;have:=dE ⟨2,0,id.toNat,false,[]⟩ (a.ok hc) none 0 0 W (λh=>by cases h);simp[oM,<-d] at this;exact this
 intro h0 W Y yb mb _ hY;obtain⟨a,d⟩:=km he f h0;have:=Dt Y yb mb n id.toNat c _ W hY b (a.cancel rfl) (by omega) f.ack;rw[<-d,<-DS c] at this;exact this
theorem E6 (X:Nat->Prop)(xb:Nat)(c:Cfg)(σ:Sg)(n:Nat)(g:ByteArray->ByteArray)(m err:Int)(w:World)(hP:bd w X xb c σ n g)(hσ:σ.Ok c g)(hc:c.Ok)(hn:σ.rs.length<1048576)(he:iq (Ts.all c g σ.rs) m err):
 c_ 79 #[Px xb,I m] w λe w'=>ki w w' e X xb c n g (σ.ack m err):=by
 obtain⟨f,d⟩:=hσ.fits.inv hc;have j:=d.ids;have i:=f.cnt;refine AG xb m _ (λw'=>∃X',bd w' X' xb c (σ.ack m err).2 n g/\iB w w' X X') w (wI X xb c σ n g 6 0 0 m false none 0 0 ⟨6,0,m.toNat,false,[]⟩ err w hP hσ hc hn (λh=>(kq he (by omega) h).1) ?_ ?_ ?_)
 ·intro W Y yb mb _ hY;refine(AA Y yb mb n c _ m W hY f.ack).mono ?_;rintro e l ⟨h,k⟩;refine⟨?_,k⟩;rcases h with ⟨h,rfl⟩|⟨h,rfl⟩
  ·rw[ks he (.inl ⟨h,rfl⟩)]
  rw[ks he (.inr ⟨h,rfl⟩)]
 ·intro h0 W _;obtain⟨a,b⟩:=kq (c:=c) (g:=g) he (by omega) h0;have:=dE ⟨6,0,m.toNat,false,[]⟩ (a.ok hc) none 0 0 W (λh=>by cases h);simp[oM,<-b] at this;exact this
 intro h0 W Y yb mb _ hY;obtain⟨a,b⟩:=kq (c:=c) (g:=g) he (by omega) h0;have:=Ds Y yb mb n m c _ W hY (a.ack rfl);rw[<-yL c _ m.toNat] at this;exact this
theorem Ba (X:Nat->Prop)(xb:Nat)(c:Cfg)(σ:Sg)(n:Nat)(g:ByteArray->ByteArray)(id lane err:Int)(es:List Ed)(ea:Option Addr)(ec:Nat)(w:World)(hP:bd w X xb c σ n g)(hσ:σ.Ok c g)(hc:c.Ok)(hn:σ.rs.length<1048576)(he:dc c (Ts.all c g σ.rs) id lane es err)(hE:aH w (.slice ea es.length ec) es)(hcap:es.length<=ec)(hen:es.length<8796093022208)(hX:∀b,(Value.slice ea es.length ec).ownBlock=some b->¬X b):
 c_ 31 #[Px xb,I id,I lane,.slice ea es.length ec] w λe w'=>ki w w' e X xb c n g (σ.sub id lane es err):=by
 obtain⟨z,u⟩:=hσ.fits.inv hc;have G:=u.ids;have A:=z.cnt;have j:=e_ z.len hc.2.2.2.2.2.2.2
 have q:err=0->∃b a,ea=some ⟨b,a,none⟩/\b<w.heap.size/\(∀i (h:i<es.length),w.cell? ⟨b,a+i*3,none⟩=some (.string es[i].1))/\(∀i (h:i<es.length),w.cell? ⟨b,a+i*3+1,none⟩=some (.string es[i].2.1))/\(∀i (h:i<es.length),w.cell? ⟨b,a+i*3+2,none⟩=some (.string es[i].2.2)):=λh0=>by
  have v:bT es:=by
   subst h0;rcases he with ⟨_,h⟩|⟨_,_,h⟩|⟨_,_,_,h⟩|⟨h,_⟩
   ·omega
   ·omega
   ·omega
   exact h.2.2.2.2
  rcases hE with ⟨rfl,_⟩|⟨b,a,B,x,C,D,E,F⟩
  ·have:=v.1;simp at this
  injection x with x _ _;exact⟨b,a,x,C,D,E,F⟩
 refine tA xb id lane ea es.length ec _ (λw'=>∃X',bd w' X' xb c (σ.sub id lane es err).2 n g/\iB w w' X X') w (wI X xb c σ n g 1 lane id 0 false ea es.length ec ⟨1,lane.toNat,id.toNat,false,es⟩ err w hP hσ hc hn (λh=>(ko he h).1) ?_ ?_ ?_)
 ·intro W Y yb mb f hY;refine(AD Y yb mb n c _ id lane es ea es.length ec W hY (hE.later f) hcap hen j).mono ?_;rintro e L ⟨⟨k,rfl,H⟩,f⟩;exact⟨by rw[qn he H],f⟩
 ·intro h0 W f;obtain⟨d,l,m,p⟩:=ko he h0;obtain⟨b,a,rfl,o,r,s,t⟩:=q h0;have:=dE ⟨1,lane.toNat,id.toNat,false,es⟩ (d.ok hc) (some ⟨b,a,none⟩) es.length ec W (λ_=>⟨b,a,rfl,rfl,h_ o f.size,λi hi=>ae f (r i hi),λi hi=>ae f (s i hi),λi hi=>ae f (t i hi)⟩);simp[oM,<-l,<-m] at this;exact this
 intro h0 W Y yb mb hO hY;obtain⟨d,l,m,p⟩:=ko he h0;obtain⟨b,a,rfl,o,r,s,t⟩:=q h0;have y:=hX b rfl;obtain⟨J,K,M,N,O⟩:=d.sub rfl;have:=Dr Y yb mb n id.toNat lane.toNat 0 false b a ec es c _ W hY j p J K (by omega) (h_ o hO.size) (λi hi=>bz hO y (r i hi)) (λi hi=>bz hO y (s i hi)) (λi hi=>bz hO y (t i hi));rw[<-DR c] at this;unfold pX at this;rw[<-l,<-m] at this;exact this
def Sg.pump (σ:Sg):Int×Sg:=σ.act 0 ⟨3,0,0,false,[]⟩
def Sg.answer (σ:Sg)(num:Int)(pass:Bool)(err:Int):Int×Sg:=σ.act err ⟨4,0,num.toNat,pass,[]⟩
def Sg.tick (σ:Sg)(m:Int)(err:Int):Int×Sg:=σ.act err ⟨5,0,m.toNat,false,[]⟩
def kW (s:Ts)(num err:Int):Prop:=((∃x∈s.segs,x.runsI num=true)/\err=0)\/((¬∃x∈s.segs,x.runsI num=true)/\err=6)
def jf (m err:Int):Prop:=((1<=m/\m<=1000)/\err=0)\/((¬(1<=m/\m<=1000))/\err=7)
theorem Sm.runsI_iff (x:Sm)(num:Int):x.runsI num=true↔∃j,x.job=some j/\(j.num:Int)=num:=by
 unfold Sm.runsI;split
 ·rename_i j e;simp[e]
 rename_i e;simp[e]
theorem vx (s:Ts)(num:Int):∃err,kW s num err:=by
 by_cases h:∃x∈s.segs,x.runsI num=true
 ·exact⟨0,.inl ⟨h,rfl⟩⟩
 exact⟨6,.inr ⟨h,rfl⟩⟩
theorem yM (m:Int):∃err,jf m err:=by
 by_cases h:1<=m/\m<=1000
 ·exact⟨0,.inl ⟨h,rfl⟩⟩
 exact⟨7,.inr ⟨h,rfl⟩⟩
theorem mj {id e:Int}(h:kW s id e)(h':kW s id e'):e=e':=by
 rcases h with ⟨h,rfl⟩|⟨h,rfl⟩<;>rcases h' with ⟨h',rfl⟩|⟨h',rfl⟩<;>first|rfl|exact absurd h h'|exact absurd h' h
theorem kp {id e:Int}(h:jf id e)(h':jf id e'):e=e':=by
 rcases h with ⟨h,rfl⟩|⟨h,rfl⟩<;>rcases h' with ⟨h',rfl⟩|⟨h',rfl⟩<;>first|rfl|exact absurd h h'|exact absurd h' h
theorem kt:s.Can c ⟨3,0,0,false,[]⟩:=⟨by simp,by simp,λh=>(by cases h),λh=>(by cases h),λh=>(by cases h),λh=>(by cases h),λh=>(by cases h)⟩
theorem iR {m:Int}(h:jf m err)(he:err=0):s.Can c ⟨5,0,m.toNat,false,[]⟩/\m=(m.toNat:Int):=by
 rcases h with ⟨⟨a,b⟩,_⟩|⟨_,h⟩
 ·exact⟨⟨by simp,by simp;omega,λh=>(by cases h),λh=>(by cases h),λh=>(by cases h),λ_=>by simp;omega,λh=>(by cases h)⟩,by omega⟩
 omega
theorem je {num:Int}(h:kW s num err)(hI:s.Inv c)(hb:s.begun<1048576000)(he:err=0):s.Can c ⟨4,0,num.toNat,pass,[]⟩/\num=(num.toNat:Int):=by
 rcases h with ⟨⟨x,b,d⟩,_⟩|⟨_,h⟩
 ·obtain⟨j,a,g⟩:=(Sm.runsI_iff x num).1 d;have f:=((hI.sm x b).job j a).2.2.2.1;have e:num=(num.toNat:Int):=by omega
  exact⟨⟨by simp,by simp;omega,λh=>(by cases h),λh=>(by cases h),λ_=>⟨x,b,(Sm.runs_iff _ _).2 ⟨j,a,by simp only;omega⟩⟩,λh=>(by cases h),λh=>(by cases h)⟩,e⟩
 omega
theorem DU (c:Cfg)(s:Ts):s.does c ⟨3,0,0,false,[]⟩=s.pump c:=by simp[Ts.does]
theorem DT (c:Cfg)(s:Ts)(num:Nat)(pass:Bool):s.does c ⟨4,0,num,pass,[]⟩=s.answer num pass:=by simp[Ts.does]
theorem DP (c:Cfg)(s:Ts)(m:Nat):s.does c ⟨5,0,m,false,[]⟩=s.tick m:=by simp[Ts.does]
theorem DO (X:Nat->Prop)(xb:Nat)(c:Cfg)(σ:Sg)(n:Nat)(g:ByteArray->ByteArray)(w:World)(hP:bd w X xb c σ n g)(hσ:σ.Ok c g)(hc:c.Ok)(hn:σ.rs.length<1048576)(h0:n<1048576000):
 c_ 30 #[Px xb] w λe w'=>ki w w' e X xb c n g σ.pump:=by
 obtain⟨b,a⟩:=hσ.fits.inv hc;have d:=a.ids;have f:=a.begun;have i:=a.now;refine yJ xb _ (λw'=>∃X',bd w' X' xb c σ.pump.2 n g/\iB w w' X X') w (wI X xb c σ n g 3 0 0 0 false none 0 0 ⟨3,0,0,false,[]⟩ 0 w hP hσ hc hn (λ_=>kt) ?_ ?_ ?_)
 ·intro W Y yb mb _ hY;exact AY yb W
 ·intro _ W _;exact dE ⟨3,0,0,false,[]⟩ ((kt (s:=Ts.all c g σ.rs)).ok hc) none 0 0 W (λh=>by cases h)
 intro _ W Y yb mb _ hY;have:=DI Y yb mb n 0 0 0 none 0 0 false c _ W hY b hc (by omega) h0 (by omega) (by omega);rw[<-DU] at this;exact this
theorem vy (X:Nat->Prop)(xb:Nat)(c:Cfg)(σ:Sg)(n:Nat)(g:ByteArray->ByteArray)(num err:Int)(pass:Bool)(w:World)(hP:bd w X xb c σ n g)(hσ:σ.Ok c g)(hc:c.Ok)(hn:σ.rs.length<1048576)(he:kW (Ts.all c g σ.rs) num err):
 c_ 44 #[Px xb,I num,.bool pass] w λe w'=>ki w w' e X xb c n g (σ.answer num pass err):=by
 obtain⟨d,f⟩:=hσ.fits.inv hc;have k:=f.begun;refine tP xb num pass _ (λw'=>∃X',bd w' X' xb c (σ.answer num pass err).2 n g/\iB w w' X X') w (wI X xb c σ n g 4 0 0 num pass none 0 0 ⟨4,0,num.toNat,pass,[]⟩ err w hP hσ hc hn (λh=>(je he d (by omega) h).1) ?_ ?_ ?_)
 ·intro W Y yb mb _ hY;refine(AX Y yb mb n c _ num pass W hY d).mono ?_;rintro e j ⟨h,i⟩;refine⟨?_,i⟩;rcases h with ⟨h,rfl⟩|⟨h,rfl⟩
  ·rw[mj he (.inl ⟨h,rfl⟩)]
  rw[mj he (.inr ⟨h,rfl⟩)]
 ·intro h0 W _;obtain⟨a,b⟩:=je (pass:=pass) he d (by omega) h0;have:=dE ⟨4,0,num.toNat,pass,[]⟩ (a.ok hc) none 0 0 W (λh=>by cases h);simp[oM,<-b] at this;exact this
 intro h0 W Y yb mb _ hY;obtain⟨a,b⟩:=je (pass:=pass) he d (by omega) h0;have:=DH Y yb mb n num.toNat 0 0 none 0 0 pass c _ W hY d hc;rw[<-b,<-DT c] at this;exact this
theorem DQ (X:Nat->Prop)(xb:Nat)(c:Cfg)(σ:Sg)(n:Nat)(g:ByteArray->ByteArray)(m err:Int)(w:World)(hP:bd w X xb c σ n g)(hσ:σ.Ok c g)(hc:c.Ok)(hn:σ.rs.length<1048576)(he:jf m err):
 c_ 46 #[Px xb,I m] w λe w'=>ki w w' e X xb c n g (σ.tick m err):=by
 obtain⟨f,d⟩:=hσ.fits.inv hc;have k:=d.now;refine yK xb m _ (λw'=>∃X',bd w' X' xb c (σ.tick m err).2 n g/\iB w w' X X') w (wI X xb c σ n g 5 0 0 m false none 0 0 ⟨5,0,m.toNat,false,[]⟩ err w hP hσ hc hn (λh=>(iR he h).1) ?_ ?_ ?_)
 ·intro W Y yb mb _ hY;refine(AW yb m W).mono ?_;rintro e j ⟨h,i⟩;refine⟨?_,i⟩;rcases h with ⟨h,rfl⟩|⟨h,rfl⟩
  ·rw[kp he (.inl ⟨h,rfl⟩)]
  rw[kp he (.inr ⟨h,rfl⟩)]
 ·intro h0 W _;obtain⟨a,b⟩:=iR (c:=c) (s:=Ts.all c g σ.rs) he h0;have:=dE ⟨5,0,m.toNat,false,[]⟩ (a.ok hc) none 0 0 W (λh=>by cases h);simp[oM,<-b] at this;exact this
 intro h0 W Y yb mb _ hY;obtain⟨a,b⟩:=iR (c:=c) (s:=Ts.all c g σ.rs) he h0;have:=DJ Y yb mb n m.toNat 0 0 none 0 0 false c _ W hY f hc (a.tick rfl).2 (by omega);rw[<-b,<-DP c] at this;exact this
theorem rI (Y:Nat->Prop)(xb mb n rb yb:Nat)(c:Cfg)(s:Ts)(L:List UInt8)(br:Bool)(keep:Int)(lv:Value)(w:World)(hU:dB w Y xb mb n rb yb c s L br keep lv):
 c_ 32 #[Px xb] w λe w'=>e=.returned (I 9)/\w'=w:=by
 have a:=hU.box.c 9 (Px rb);clear hU;go_enter func32,ntmps32;go_wp2_with fail;go_ret;exact⟨rfl,rfl⟩
theorem CA (X:Nat->Prop)(xb:Nat)(c:Cfg)(σ:Sg)(n:Nat)(g:ByteArray->ByteArray)(k:Int)(w:World)(hP:bd w X xb c σ n g):
 c_ 29 #[Px xb,I k] w λe w'=>ki w w' e X xb c n g (σ.brk k):=by
 rcases hP with ⟨b,hP⟩|⟨b,hP⟩
 ·have i:σ.brk k=(0,{σ with br:=true,keep:=k}):=by simp[Sg.brk,b]
  rw[i];obtain⟨d,f,Y,r,s,a,j,A,B,t,o,u,v,x,y,p⟩:=hP.ex;refine(wm Y xb d n r s c _ _ σ.br a f k w A).mono ?_;rintro e w' ⟨rfl,m,l⟩;have C:=l.size;exact⟨rfl,X,.inl ⟨b,⟨⟨d,f,Y,r,s,k,j.same (l.block d j.lt p),m,λ_=>rfl,t,o,u,v,x,y,p⟩,hP.fx,λq hq=>h_ (hP.xl q hq) C⟩⟩,l.mono λq hq=>by rw[hq];exact o,λ_ h=>.inl h⟩
 have i:σ.brk k=(8,σ):=by simp[Sg.brk,b]
 rw[i];obtain⟨d,f,j,z,_⟩:=hP.ex;refine(rc xb d c _ f k w z).mono ?_;rintro e w' ⟨rfl,rfl⟩;exact .same (.inr ⟨b,hP⟩) (n_ _ _)
theorem yN (X:Nat->Prop)(xb:Nat)(c:Cfg)(σ:Sg)(n:Nat)(g:ByteArray->ByteArray)(w:World)(hP:bd w X xb c σ n g):
 c_ 50 #[Px xb] w λe w'=>ki w w' e X xb c n g σ.crash:=by
 rcases hP with ⟨f,hP⟩|⟨f,hP⟩
 ·have i:σ.crash=(0,{σ with up:=false,T:=[],br:=false}):=by simp[Sg.crash,f]
  rw[i];obtain⟨b,d,Y,v,x,a,k,s,t,o,y,z,p,A,m,B⟩:=hP.ex;refine(wl Y xb b n v x c _ _ σ.br a d w s).mono ?_;rintro e w' ⟨rfl,j,l⟩;have u:=l.size;refine⟨rfl,X,.inr ⟨rfl,⟨⟨b,d,k.same (l.block b k.lt m),?_,o,p,m⟩,hP.fx,λq hq=>h_ (hP.xl q hq) u⟩⟩,l.mono λq hq=>by rw[hq];exact hP.fx,λ_ h=>.inl h⟩;show dH w' xb b c (bq σ.rs++[]) d;rw[T_];exact j
 have i:σ.crash=(8,σ):=by simp[Sg.crash,f]
 rw[i];obtain⟨b,d,k,r,_⟩:=hP.ex;refine(rd xb b c _ d w r).mono ?_;rintro e w' ⟨rfl,rfl⟩;exact .same (.inr ⟨f,hP⟩) (n_ _ _)
theorem nu {T:List UInt8}(h:mR T):T.length<1100:=by
 obtain⟨r,m,a,b,rfl⟩:=h;have:=Rc.body_lt a;rw[l_,eG];omega
theorem rH (X:Nat->Prop)(xb:Nat)(c:Cfg)(σ:Sg)(n:Nat)(g:ByteArray->ByteArray)(w:World)(hP:bd w X xb c σ n g)(hσ:σ.Ok c g)(hc:c.Ok)(hn:σ.rs.length<1048576)(h0:n<1048576000):
 c_ 32 #[Px xb] w λe w'=>ki w w' e X xb c n g σ.recover:=by
 rcases hP with ⟨l,hP⟩|⟨l,hP⟩
 ·have p:σ.recover=(9,σ):=by simp[Sg.recover,l]
  rw[p];obtain⟨d,v,Y,m,o,b,i,f,_⟩:=hP.ex;refine(rI Y xb d n m o c _ _ σ.br b v w f).mono ?_;rintro e w' ⟨rfl,rfl⟩;exact .same (.inl ⟨l,hP⟩) (n_ _ _)
 have p:σ.recover=(0,{σ with rs:=σ.rs++[rc7],up:=true,T:=[],br:=false}):=by simp[Sg.recover,l]
 rw[p];obtain⟨d,v,i,z,C,x,y⟩:=hP.ex;have D:=iQ (hσ.fits.ok hc);have F:=nu hσ.torn;refine(oG xb d n g c σ.rs σ.T _ v w z rfl hσ.torn hσ.fits hc hn (by rw[a_];omega) i h0).mono ?_;rintro e w' ⟨rfl,⟨Y,m,o,j,f,u,A,s⟩,r⟩;have G:=r.size;have t:=i.lt;refine⟨rfl,kP X w w',.inl ⟨rfl,⟨⟨d,j,Y,m,o,0,i.same (r.block d t λe=>?_),?_,λh=>(by cases h),.inl C,.inr ⟨u,f.run.lt⟩,λk a=>.inr ⟨A k a,f.yl k a⟩,λq hq=>?_,λh=>?_,y,?_⟩,.inl hP.fx,?_⟩⟩,r.mono λk a=>?_,λk a=>a.imp (λh=>h) (λh=>h.1)⟩
 ·rcases e with e|e
  ·exact y e
  exact i.ne_sl z.log e
 ·show dB w' Y xb d n m o c (Ts.all c g (σ.rs++[rc7])) (bq (σ.rs++[rc7])) false 0 j;have B:(Ts.all c g σ.rs).does c rc7=(Ts.all c g σ.rs).lose:=by simp[Ts.does,rc7]
  rw[Ts.all_snoc,kU,B];exact f
 ·rcases s with h|⟨H,h,E⟩
  ·rw[h] at hq;exact .inl (x q hq)
  exact .inr ⟨by rw[h] at hq;cases hq;exact E,f.log.lt hq⟩
 ·have:=A d h;omega
 ·omega
 ·rintro k (a|a)
  ·have:=hP.xl k a;omega
  exact a.2
 rcases a with a|a
 ·rw[a];exact hP.fx
 exact x k a
def Sg.poll (c:Cfg)(g:ByteArray->ByteArray)(σ:Sg):Int×Int×Int×Int:=
 if σ.up=false then (0,0,0,8) else if h:(Ts.all c g σ.rs).acked<(Ts.all c g σ.rs).outs.length then (((Ts.all c g σ.rs).acked:Int)+1,((Ts.all c g σ.rs).outs[(Ts.all c g σ.rs).acked]'h).1,((Ts.all c g σ.rs).outs[(Ts.all c g σ.rs).acked]'h).2,0) else (0,0,0,5)
def gj (p:Int×Int×Int×Int):Value:=.tuple #[.agg #[I p.1,I p.2.1,I p.2.2.1],I p.2.2.2]
theorem DV (X:Nat->Prop)(xb:Nat)(c:Cfg)(σ:Sg)(n:Nat)(g:ByteArray->ByteArray)(w:World)(hP:bd w X xb c σ n g)(hσ:σ.Ok c g)(hc:c.Ok):
 c_ 77 #[Px xb] w λe w'=>e=.returned (gj (σ.poll c g))/\Bl w w':=by
 rcases hP with ⟨d,hP⟩|⟨d,hP⟩
 ·obtain⟨i,f,Y,k,l,a,o,j,_⟩:=hP.ex;by_cases h:(Ts.all c g σ.rs).acked<(Ts.all c g σ.rs).outs.length
  ·refine(tL Y xb i n k l c _ _ σ.br a f w j h).mono ?_;rintro e w' ⟨rfl,b⟩;exact⟨by simp[Sg.poll,d,h,gj],b⟩
  refine(tK Y xb i n k l c _ _ σ.br a f w j (by have:=(hσ.fits.inv hc).1.ack;omega)).mono ?_;rintro e w' ⟨rfl,b⟩;exact⟨by simp[Sg.poll,d,h,gj],b⟩
 obtain⟨i,f,o,m,_⟩:=hP.ex;refine(tx xb i c _ f w m).mono ?_;rintro e w' ⟨rfl,b⟩;exact⟨by simp[Sg.poll,d,gj],b⟩
theorem E7 (X:Nat->Prop)(xb:Nat)(c:Cfg)(σ:Sg)(n:Nat)(g:ByteArray->ByteArray)(w:World)(hP:bd w X xb c σ n g)(hσ:σ.Ok c g)(hc:c.Ok)(hn:σ.rs.length<1048576):
 c_ 28 #[Px xb] w λe w'=>e=.returned (.string (bs (bq σ.rs++σ.T)))/\w'=w:=by
 have j:=iQ (hσ.fits.ok hc);have k:=nu hσ.torn;rcases hP with ⟨h,hP⟩|⟨h,hP⟩
 ·obtain⟨l,b,Y,m,o,a,i,f,_⟩:=hP.ex;rw[hσ.upT h,T_];exact Du xb _ _ b w f.box rfl f.log (by omega)
 obtain⟨l,b,i,d,_⟩:=hP.ex;exact Du xb _ _ b w d.box rfl d.log (by rw[a_];omega)
def qo (w w':World)(e:Ending)(c:Cfg)(g:ByteArray->ByteArray)(σ:Sg):Prop:=(σ.up=true/\o8 w w' e c.age (Ts.all c g σ.rs).queue)\/(σ.up=false/\e=.returned (.tuple #[Zn,I 8]))
theorem Cy (X:Nat->Prop)(xb:Nat)(c:Cfg)(σ:Sg)(n:Nat)(g:ByteArray->ByteArray)(w:World)(hP:bd w X xb c σ n g)(hσ:σ.Ok c g)(hc:c.Ok)(hn:σ.rs.length<1048576):
 c_ 27 #[Px xb] w λe w'=>qo w w' e c g σ/\Bl w w':=by
 rcases hP with ⟨b,hP⟩|⟨b,hP⟩
 ·obtain⟨f,d,Y,m,o,a,j,k,_⟩:=hP.ex;refine(wJ Y xb f n m o c _ _ σ.br a d w k (hσ.fits.inv hc).1 hc (by have:=(hσ.fits.inv hc).2.ids;omega)).mono ?_;rintro e w' ⟨h,l⟩;exact⟨.inl ⟨b,h⟩,l⟩
 obtain⟨f,d,j,i,_⟩:=hP.ex;refine(rF xb f c _ d w i).mono ?_;rintro e w' ⟨rfl,rfl⟩;exact⟨.inr ⟨b,rfl⟩,n_ _ _⟩
def Sg.top (c:Cfg)(g:ByteArray->ByteArray)(n:Nat)(σ:Sg):Nat:=n+4*(Ts.all c g σ.rs).outs.length
def Cz (w w':World)(e:Ending)(c:Cfg)(σ:Sg)(n:Nat)(g:ByteArray->ByteArray):Prop:=(σ.up=true/\∃(l:List Fl) (b cap:Nat),e=.returned (.tuple #[.slice (some ⟨b,0,none⟩) l.length cap,I 0])/\fE l (Ts.all c g σ.rs).tip/\l.length<=σ.top c g n/\w'.ownsRow w.heap.size 80 2 (.slice (some ⟨b,0,none⟩) l.length cap) l.length (l.flatMap cF))\/(σ.up=false/\e=.returned (.tuple #[Zn,I 8]))
theorem DW (X:Nat->Prop)(xb:Nat)(c:Cfg)(σ:Sg)(n:Nat)(g:ByteArray->ByteArray)(w:World)(hP:bd w X xb c σ n g)(hn:σ.top c g n*32<=140737488355328):
 c_ 64 #[Px xb] w λe w'=>Cz w w' e c σ n g/\Bl w w':=by
 rcases hP with ⟨b,hP⟩|⟨b,hP⟩
 ·obtain⟨f,d,Y,m,o,a,j,k,_⟩:=hP.ex;refine(yI Y xb f n m o c _ _ σ.br a d w k hn).mono ?_;rintro e w' ⟨h,l⟩;exact⟨.inl ⟨b,h⟩,l⟩
 obtain⟨f,d,j,i,_⟩:=hP.ex;refine(tN xb f c _ d w i).mono ?_;rintro e w' ⟨rfl,rfl⟩;exact⟨.inr ⟨b,rfl⟩,n_ _ _⟩
end
end Go.Proofs.YtgamgomepdfgdaaGreat
