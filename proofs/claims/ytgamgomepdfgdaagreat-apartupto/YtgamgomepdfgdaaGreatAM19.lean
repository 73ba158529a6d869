import Derived.Test.YtgamgomepdfgdaaGreatAM12
set_option maxRecDepth 100000
set_option maxHeartbeats 8000000
namespace Go.Proofs.YtgamgomepdfgdaaGreat
open Go.RowKit Go.Proofs.Tryz
section
variable{c:Cfg}{n0 nb sb:Nat}{z:Nz}{s:Ts}{w w' w0:World}
theorem aS.kseg (h:aS w0 w nb n0 c s z)(hO:ai w w' λk=>k=sb)(ht:cy w sb 170)(hne:z.sv.ownBlock≠some sb)(hl:w0.heap.size<=sb):aS w0 w' nb n0 c s z:=by
 have K:aM w w' [170]:=aM.of_only hO λk hk=>⟨_,by simp,hk▸ht⟩;refine⟨eJ h.below hO λk hk=>hk▸hl,h.low,K.bx h.box (by decide),h.tip.keptT K (by decide) (b_ _),h.mfst,K.row h.mrow (by decide),λy hy=>⟨K.sl (h.mids y hy).1 (by decide),(h.mids y hy).2⟩,K.row h.ids (by decide),h.qs,K.row h.row (by decide),h.eds,h.ss,aN h.srow λb hb=>hO.block b (f_ h.srow b hb).2 λe=>hne (by rw[<-e];exact hb),λy hy=>?_,K.row h.outs (by decide)⟩;obtain⟨a,d⟩:=h.segs y hy;exact⟨a.kept (λb hb=>K.same _ _ (a.l.row.ty hb) (by decide)) (λb hb=>K.same _ _ hb (by decide)) (b_ _),d⟩
variable{f:Sm}
theorem qx {m:List Sm}(h:aS w0 w nb n0 c s z)(hI:s.Inv c)(hs:s.segs=f::m)(hn:(n0+4*s.ids.length+136)*32<=140737488355328)(hi:s.ids.length<1048576000)(HC:Hid ((aB s.tip f.l).2=f.l.length/\f.by_=0/\c.retries<f.fails/\f.l.length=1)):
 c_ 178 #[Px nb] w λe w'=>e=.returned (.bool true)/\bM w0 w' nb n0 c (s.blame f m):=by
 have az:Hid (s.segs.length<=8/\s.outs.length<1048576000):=⟨cY hI,by have:=hI.cnt;omega⟩;obtain⟨bb,mv,D,qv,sv,ov,q,tl,zs⟩:=z;have aJ:zs.map Sv.x=f::m:=h.ss.trans hs
 obtain⟨y,B,rfl⟩:∃y B,zs=y::B:=by
  cases zs with
  |nil=>cases aJ
  |cons y B=>exact⟨y,B,rfl⟩
 rw[C_] at aJ;injection aJ with hyx hys
 obtain⟨g,A,rfl⟩:∃g A,sv=s_ g 0 (B.length+1) A:=by
  rcases h.srow.2 with ⟨_,h0⟩|⟨g,br,bs,e,_⟩
  ·simp at h0
  exact⟨g,br,e⟩
 obtain⟨M,bu⟩:=h.segs y D_;have hf:=hI.sm f (by rw[hs];exact D_)
 have a8:f.l.length<=8:=by
  have:=hI.tr;rw[hs,aO] at this;omega
 have V:y.cl.length=f.l.length:=by rw[M.l.len,hyx]
 have Z:y.cl.map Prod.fst=f.l:=by rw[<-hyx];exact M.l.fst
 obtain⟨T,L,ao⟩:=M.l.row.form;obtain⟨ta,tn,tc,aK⟩:=M.sl;have a7:s.outs.length<=s.ids.length:=by have:=hI.cnt;omega
 have hM:∀W,Bl w W->c_ 217 #[bb,.slice T y.cl.length L] W λe w'=>(∃u,e=.returned (.tuple #[u,I (aB s.tip f.l).2])/\cu w' (n0+4*s.outs.length+4*f.l.length) u (aB s.tip f.l).1)/\Bl W w':=λW hW=>by
  rw[<-ao];exact jM y.cl f.l bb y.lv s.tip (n0+4*s.outs.length) W (h.tip.later hW) Z (M.l.row.later hW) (λx hx=>(M.l.eds x hx).later (bj h.below hW)) (λx hx=>(hf.eds x hx).2) (e_ (u_ 32 (show n0+4*s.outs.length+4*f.l.length+104<=n0+4*s.ids.length+136 by omega)) hn) a8
 have K:∀j (u:Value),(cSg y)[j]? =some u->w.cell? ⟨g,j,none⟩=some u:=λj u hu=>by
  have h7:j<7:=by have:=(N_.1 hu).1;exact this
  have:=(Sl.of_row h.srow).cell (j:=j) (u:=u) (by
   rw[F_,V_ (by show j<7;exact h7)];exact hu)
  rwa [O_] at this
 have hC:cSg y=[.slice T y.cl.length L,I f.fails,I f.by_,.bool (f.by_ !=0),I (cr f.job),I y.til,.slice ta tn tc]:=by rw[cSg,ao,aK,hyx]
 rw[hC] at K;have d0:=K 0 (.slice T y.cl.length L) rfl;have d1:=K 1 (I f.fails) rfl;have d2:=K 2 (I f.by_) rfl;have d3:=K 3 (.bool (f.by_ !=0)) rfl;have d4:=K 4 (I (cr f.job)) rfl;have d5:=K 5 (I y.til) rfl;have d6:=K 6 (.slice ta tn tc) rfl;have bI:=h.box.lt;obtain⟨n,p,o,rfl⟩:=h.tip.form;have HN:Hid (aS w0 w nb n0 c s ⟨.slice n p o,mv,D,qv,s_ g 0 (B.length+1) A,ov,q,tl,y::B⟩):=h;have HY:Hid (y.x=f/\B.map Sv.x=m/\y.lv=.slice T y.cl.length L/\y.tv=.slice ta tn tc/\y.cl.length=f.l.length/\y.cl.map Prod.fst=f.l):=⟨hyx,hys,ao,aK,V,Z⟩;have HM:Hid (∀W,Bl w W->c_ 217 #[.slice n p o,.slice T y.cl.length L] W λe w'=>(∃u,e=.returned (.tuple #[u,I (aB s.tip f.l).2])/\cu w' (n0+4*s.outs.length+4*f.l.length) u (aB s.tip f.l).1)/\Bl W w'):=hM;have bq:=h.box.c 11 (s_ g 0 (B.length+1) A);have c7:=h.box.c 7 (.slice n p o);have c4:=h.box.c 4 (I c.retries);obtain⟨O,S⟩:∃O,O=y.cl.length:=⟨_,rfl⟩;rw[<-S] at d0 HM HY;have HZ:Hid (O=f.l.length):=S.trans V;have aY:Hid (O=y.cl.length):=S;have bE:O<=8:=by omega
 have bC:1<=O:=by have:=S_.2 hf.ne;omega
 obtain⟨U,ap⟩:∃U,U=f.fails:=⟨_,rfl⟩;obtain⟨v2,aL⟩:∃v2,v2=f.by_:=⟨_,rfl⟩;obtain⟨v3,aM⟩:∃v3,v3=(f.by_ !=0):=⟨_,rfl⟩;obtain⟨v4,a9⟩:∃v4,v4=cr f.job:=⟨_,rfl⟩;rw[<-ap] at d1;rw[<-aL] at d2;rw[<-aM] at d3;rw[<-a9] at d4;have HV:Hid (U=f.fails/\v2=f.by_/\v3=(f.by_ !=0)):=⟨ap,aL,aM⟩;clear ap aL aM a9;clear h M bu hM hC K hyx hys ao aK Z V hf S a8 a7;go_enter func178,ntmps178;go_upto_region 8 with fail;have X6:=Bx.new w #[.slice T O L,I U,I v2,.bool v3,I v4,I y.til,.slice ta tn tc] 170;have E:Hid (Bl w (w.alloc (.cells #[.slice T O L,I U,I v2,.bool v3,I v4,I y.til,.slice ta tn tc] 170))):=af _ _;generalize w.alloc (.cells #[.slice T O L,I U,I v2,.bool v3,I v4,I y.til,.slice ta tn tc] 170)=w6 at *;have aV:Hid (Bx w6 w.heap.size 170 #[.slice T O L,I U,I v2,.bool v3,I v4,I y.til,.slice ta tn tc]):=X6;have x0:=X6.c 0 (.slice T O L);have e7:=ae E.out c7;have a1:=HM.out w6.drew ⟨E.out.os,E.out.tape,E.out.output,E.out.size,E.out.block⟩;clear X6 d0 d1 d2 d3 d4 d5 d6 bq HM;go_cut [5,6] from 11 (λt5 t6 wz=>bD t5/\t6=I (aB s.tip f.l).2/\cu wz (n0+4*s.outs.length+4*f.l.length) t5 (aB s.tip f.l).1/\Bl w6 wz)
 case first=>
  go_region_held_law (λw'=>w'.cell? ⟨nb,7,none⟩=some (.slice n p o)/\w'.cell? ⟨w.heap.size,0,none⟩=some (.slice T O L)) (go_keep) ((go_at_call 217;refine a1.mono ?_;rintro e w7 ⟨⟨u,rfl,hu⟩,J⟩;obtain⟨ua,un,uc,rfl⟩:=hu.form;have HU:Hid (cu w7 (n0+4*s.outs.length+4*f.l.length) (.slice ua un uc) (aB s.tip f.l).1):=hu;have bg:Hid (Bl w6 w7):=⟨J.os,J.tape,J.output,J.size,J.block⟩;have y7:=ae J e7;have y0:=ae J x0;clear hu J))
  all_goals
   go_wp2_with fail;go_meet
   case rel=>exact⟨⟨_,_,_,rfl⟩,rfl,HU.out,bg.out⟩
 obtain⟨⟨ua,un,uc,rfl⟩,rfl,hu,aE⟩:=hcut;rename World=>w8;have HU:Hid (cu w8 (n0+4*s.outs.length+4*f.l.length) (.slice ua un uc) (aB s.tip f.l).1):=hu;have ax:Hid (Bl w w8):=E.out.trans (aE.mono E.out.size);have al:Hid (Bx w8 w.heap.size 170 #[.slice T O L,I U,I v2,.bool v3,I v4,I y.til,.slice ta tn tc]):=aV.out.later aE;obtain⟨kn,an⟩:∃kn,kn=(aB s.tip f.l).2:=⟨_,rfl⟩;rw[<-an];have bm:Hid (kn=(aB s.tip f.l).2):=an;have bz:kn<=O:=by rw[an,HZ.out];exact dg _ _
 clear hu aE aV E a1 x0 e7 an;obtain rfl:kn=O:=by rw[bm.out,HZ.out,HC.out.1]
 obtain rfl:v3=false:=by rw[HV.out.2.2,HC.out.2.1];rfl
 have ap:c.retries<U:=by rw[HV.out.1];exact HC.out.2.2.1
 have bG:(c.retries:Int)<(U:Int):=by omega
 obtain rfl:kn=1:=by rw[HZ.out];exact HC.out.2.2.2
 have x1:=al.out.c 1 (I U);have x3:=al.out.c 3 (.bool false);have e4:=ae ax.out c4;generalize c.retries=rt at *;go_upto_region 25 with fail;go_cut [126] from 130 (λt wz=>t=.bool true/\Bl w8 wz)
 case first=>
  go_region_held_law (λw'=>w'.cell? ⟨nb,4,none⟩=some (I rt)/\w'.cell? ⟨w.heap.size,1,none⟩=some (I U)) (go_keep) (fail)
  all_goals
   go_wp2_with fail;go_meet
   case rel=>exact⟨rfl,⟨rfl,rfl,rfl,b_ _,λ_ _=>rfl⟩⟩
 case rest=>
 obtain⟨rfl,aF⟩:=hcut;rename World=>w9;have bh:Hid (Bl w w9):=bj ax.out aF;have aX:Hid (Bx w9 w.heap.size 170 #[.slice T 1 L,I U,I v2,.bool false,I v4,I y.til,.slice ta tn tc]):=al.out.later aF;clear aF al ax HU x1 x3 e4
 obtain⟨y0,V⟩:∃y0,y.cl=[y0]:=by
  have h1:=aY.out;exact List.length_eq_one_iff.1 h1.symm
 have bi:Hid (y.cl=[y0]):=V;have h9:aS w0 w9 nb n0 c s ⟨.slice n p o,mv,D,qv,s_ g 0 (B.length+1) A,ov,q,tl,y::B⟩:=HN.out.later bh.out
 have aC:Sl w9 165 4 (.slice T 1 L) 1 ((y.cl.map wOf).flatMap cW):=by
  have:=(h9.segs y D_).1.l.row;rwa [HY.out.2.2.1,<-aY.out] at this
 obtain⟨gl,ol,bK,bw,_⟩:=aC.addr (by omega);cases bw
 have dI:w9.cell? ⟨gl,ol,none⟩=some (I y0.1.1):=by
  have:=aC.cell (j:=0) (u:=I y0.1.1) (by rw[V];rfl);rwa [Nat.add_zero] at this
 have Y:=D0 h9 y0.1.1 2 az.out.2;have x0:=aX.out.c 0 (s_ gl ol 1 L);have bx:ov.ownBlock≠some w.heap.size:=λe=>by have:=(f_ HN.out.outs _ e).2;omega
 obtain⟨F,ab⟩:∃F,F=y0.1.1:=⟨_,rfl⟩;rw[<-ab] at dI Y;have bl:Hid (F=y0.1.1):=ab;have ba:¬(w.heap.size=nb):=by omega
 clear h9 aC c7 c4 ab;go_wp2_with fail;go_fit Y;rintro e ak ⟨rfl,⟨X,aZ⟩,au⟩;have H:Bx ak w.heap.size 170 #[s_ gl ol 1 L,I U,I v2,.bool false,I v4,I y.til,.slice ta tn tc]:=aX.out.kept au λe=>e.elim ba bx;have c0:=H.c 0 (s_ gl ol 1 L);have f0:=H.fr 0;have a0:aS w0 (ak.setCell ⟨w.heap.size,0,none⟩ (Zn)) nb n0 c {s with outs:=s.outs++[(F,2)]} ⟨.slice n p o,mv,D,qv,s_ g 0 (B.length+1) A,X,q,tl,y::B⟩:=aZ.kseg (sb:=w.heap.size) ((ai.refl _ _).set (.inl rfl)) H.ty (λe=>by have:=(f_ HN.out.srow _ e).2;omega) HN.out.below.size;have bc:(ak.setCell ⟨w.heap.size,0,none⟩ (Zn)).cell? ⟨w.heap.size,0,none⟩=some (Zn):=(H.set 0 (Zn)).cell (i:=0) rfl;have aw:Hid (aS w0 (ak.setCell ⟨w.heap.size,0,none⟩ (Zn)) nb n0 c {s with outs:=s.outs++[(F,2)]} ⟨.slice n p o,mv,D,qv,s_ g 0 (B.length+1) A,X,q,tl,y::B⟩):=a0;clear a0 aZ au H Y x0 dI;go_upto_region 31 with fail;generalize ak.setCell ⟨w.heap.size,0,none⟩ (Zn)=P at *;have x0:=bc;have HP:Hid (∀W,c_ 219 #[Zn,I 0,I 0] W λe w'=>(∃v',e=.returned v'/\w'.ownsRow W.heap.size 165 4 v' 0 [])/\Bl W w'):=λW=>nC [] (Zn) 0 0 W (Sl.nil _ _ _) (by simp) (b_ _) (b_ _) (by simp)
 have HI:Hid (∀(W:World) (bA bB:Nat) (vA vB:Value),Bl P W->W.ownsRow bA 165 4 vA 0 []->W.ownsRow bB 165 4 vB 0 []->P.heap.size<=bA->P.heap.size<=bB->c_ 218 #[Px nb,s_ (W.heap.size) 0 2 2] (W.alloc (.cells #[vA,I 0,I 0,.bool false,I 0,I 0,Zn,vB,I 0,I 0,.bool false,I 0,I 0,Zn] 170)) λe w'=>e=.returned (.tuple #[])/\(∃G,aS w0 w' nb n0 c {s with outs:=s.outs++[(F,2)],segs:=B.map Sv.x} ⟨.slice n p o,mv,D,qv,G,X,q,tl,B⟩)/\ai W w' λk=>k=nb):=λW bA bB vA vB hW hA hB lA lB=>by
  refine(zj (bA:=bA) (bB:=bB) (aw.out.later hW) [] [] vA vB hA hB (by simp) (by simp) (gz hA aw.out.row lA) (gz hB aw.out.row lB) (e_ az.out.1 (by decide))).mono ?_;rintro e w' ⟨rfl,⟨G,h1⟩,h2⟩;exact⟨rfl,⟨G,h1⟩,h2⟩
 have a2:=HP.out P.drew;clear bc;go_cut [165] from 150 (λ_ wz=>∃G,aS w0 wz nb n0 c {s with outs:=s.outs++[(F,2)],segs:=B.map Sv.x} ⟨.slice n p o,mv,D,qv,G,X,q,tl,B⟩)
 case first=>
  go_region_held_law (λw'=>w'.cell? ⟨w.heap.size,0,none⟩=some (Zn)) (go_keep) (first
   |(go_at_call 219;go_fit a2;rintro e wa ⟨⟨va,rfl,aG⟩,N⟩;obtain⟨aa,ka,rfl⟩:=ag aG;have ya:=ae N x0;have aT:Hid (wa.ownsRow P.heap.size 165 4 (.slice aa 0 ka) 0 []):=aG;have aP:Hid (Bl P wa):=⟨N.os,N.tape,N.output,N.size,N.block⟩;have a3:=HP.out wa;clear aG N a2)
   |(go_at_call 219;go_fit a3;rintro e wc ⟨⟨vc,rfl,aH⟩,am⟩;obtain⟨ac,kc,rfl⟩:=ag aH;have yc:=ae am ya;have aR:=HI.out wc P.heap.size wa.heap.size (.slice aa 0 ka) (.slice ac 0 kc) (bj aP.out am) (aN aT.out λb hb=>am.block b (f_ aT.out b hb).2) aH (b_ _) aP.out.size;clear aH am a3)
   |(go_at_call 218;go_fit aR;rintro e wd ⟨rfl,a4,a6⟩;have yd:=cG a6 ba yc;have bo:Hid (∃G,aS w0 wd nb n0 c {s with outs:=s.outs++[(F,2)],segs:=B.map Sv.x} ⟨.slice n p o,mv,D,qv,G,X,q,tl,B⟩):=a4;clear a4 a6 aR))
  all_goals
   go_wp2_with fail;go_meet
   case rel=>exact bo.out
 rename World=>w10;obtain⟨d,ar⟩:∃d,d=B:=⟨_,rfl⟩;obtain⟨aj,av⟩:∃aj,aj=X:=⟨_,rfl⟩;obtain⟨so,aI⟩:∃so,so=s.outs++[(F,2)]:=⟨_,rfl⟩;rw[<-av,<-ar,<-aI] at hcut
 have bp:Hid (True/\d.length<=64):=⟨trivial,by
  have h1:(y::B).map Sv.x=s.segs:=HN.out.ss;have h2:=az.out.1;rw[<-h1,d_,List.length_cons] at h2;rw[ar]
  omega⟩
 have bk:Hid (({s with outs:=so,segs:=(d.map Sv.renew).map Sv.x}:Ts)=s.blame f m):=by
  rw[ar];exact wT (x:=y0.1) aI HY.out.2.1 (by rw[<-HY.out.2.2.2.2.2,bi.out];rfl) bl.out
 clear av aI ar;have bt:=hcut;obtain⟨G,aA⟩:=bt
 obtain⟨sa,sc,rfl⟩:∃sa sc,G=.slice sa d.length sc:=by
  obtain⟨a,b,e⟩:=ag aA.srow;exact⟨a,b,e⟩
 have bd:Hid (aS w0 w10 nb n0 c {s with outs:=so,segs:=d.map Sv.x} ⟨.slice n p o,mv,D,qv,.slice sa d.length sc,aj,q,tl,d⟩):=aA;have bJ:d.length<=64:=bp.out.2;clear aA hcut;go_wp2_with fail;go_loopw [10] (λiv wr=>∃i:Nat,i<=d.length/\iv=I i/\Hid (aS w0 wr nb n0 c {s with outs:=so,segs:=(aW Sv.renew d i).map Sv.x} ⟨.slice n p o,mv,D,qv,.slice sa d.length sc,aj,q,tl,aW Sv.renew d i⟩)) (λi _=>d.length-(intOf i).toNat)
 case atStart=>exact⟨0,k_ _,rfl,by rw[iT];exact bd⟩
 obtain⟨i,bH,rfl,C⟩:=hrel;have bF:=C.out.box.c 11 (.slice sa d.length sc);by_cases hlt:i<d.length
 ·have ad:i<(aW Sv.renew d i).length:=by rw[bf];exact hlt
  have ah:wr.ownsRow w0.heap.size 170 7 (.slice sa d.length sc) (aW Sv.renew d i).length ((aW Sv.renew d i).flatMap cSg):=C.out.srow
  obtain⟨r,hv⟩:∃r,sa=some ⟨r,0,none⟩:=by
   rcases ah.2 with ⟨_,h0⟩|⟨r,c5,bs,e,_⟩
   ·omega
   injection e with e1 e2 e3;exact⟨r,e1⟩
  subst hv
  have v:wr.ownsRow w0.heap.size 170 7 (s_ r 0 (aW Sv.renew d i).length sc) (aW Sv.renew d i).length ((aW Sv.renew d i).flatMap cSg):=by
   have:=ah;rw[bf] at this ⊢;exact this
  have aD:=(C.out.segs _ (i_ ad));obtain⟨a5,k5,R⟩:=aD.1.l.row.form;rw[bV _ _ hlt] at aD R
  have e0:wr.cell? ⟨r,i*7,none⟩=some (.slice a5 d[i].cl.length k5):=by
   have:=(Sl.of_row v).cell (j:=i*7) (u:=.slice a5 d[i].cl.length k5) (by
    have:=aq cSg 7 (λ_=>rfl) (aW Sv.renew d i) i 0 ad (by decide);rw[bV _ _ hlt,Nat.add_zero] at this
    rw[this,<-R];rfl)
   rwa [O_] at this
  have K:∀j u,j<7->(cSg d[i])[j]? =some u->wr.cell? ⟨r,i*7+j,none⟩=some u:=λj u hj hu=>by
   have:=(Sl.of_row v).cell (j:=i*7+j) (u:=u) (by
    rw[aq cSg 7 (λ_=>rfl) (aW Sv.renew d i) i j ad hj,bV _ _ hlt];exact hu)
   rwa [O_] at this
  have e1:=K 1 _ (by decide) rfl;have e2:=K 2 _ (by decide) rfl;have e3:=K 3 _ (by decide) rfl;have e4:=K 4 _ (by decide) rfl;have e5:=K 5 _ (by decide) rfl;have e6:=K 6 _ (by decide) rfl;have fr:=λj=>(Sl.of_row v).fr j;have f0:=fr (i*7);have f1:=fr (i*7+1);have f2:=fr (i*7+2);have f3:=fr (i*7+3);have f4:=fr (i*7+4);have f5:=fr (i*7+5);have f6:=fr (i*7+6);have aU:Hid (wr.ownsRow w0.heap.size 170 7 (s_ r 0 (aW Sv.renew d i).length sc) (aW Sv.renew d i).length ((aW Sv.renew d i).flatMap cSg)):=v;have bn:Hid (d[i].lv=.slice a5 d[i].cl.length k5):=R;generalize d[i].cl.length=n5 at *;obtain⟨W,hW⟩:∃W,W=(((((((wr.setCell ⟨r,i*7,none⟩ (.slice a5 n5 k5)).setCell ⟨r,i*7+1,none⟩ (I 0)).setCell ⟨r,i*7+2,none⟩ (I 0)).setCell ⟨r,i*7+3,none⟩ (.bool false)).setCell ⟨r,i*7+4,none⟩ (I 0)).setCell ⟨r,i*7+5,none⟩ (I 0)).setCell ⟨r,i*7+6,none⟩ (Zn)):=⟨_,rfl⟩
  have Q:W.ownsRow w0.heap.size 170 7 (s_ r 0 d.length sc) (aW Sv.renew d (i+1)).length ((aW Sv.renew d (i+1)).flatMap cSg)/\wr.grownBy W (some r):=by
   have:=vE aU.out ad d[i].renew
   have e:cSg d[i].renew=[.slice a5 n5 k5,I 0,I 0,.bool false,I 0,I 0,Zn]:=by
    show [d[i].lv,I 0,I 0,.bool false,I 0,I 0,Zn]=_;rw[bn.out]
   rw[dQ Sv.renew d hlt,e,bf] at this;rw[bf,hW];exact this
  have ay:Hid (aS w0 W nb n0 c {s with outs:=so,segs:=(aW Sv.renew d (i+1)).map Sv.x} ⟨.slice n p o,mv,D,qv,s_ r 0 d.length sc,aj,q,tl,aW Sv.renew d (i+1)⟩):=by
   have bv:some nb≠some r:=λe=>cf C.out.srow C.out.box (by decide) (by rw[e];rfl);refine C.out.setSegs (zs':=aW Sv.renew d (i+1)) (ai.of_grown Q.2 λk hk=>.inr hk) (C.out.box.grown Q.2 bv) Q.1 λt ht=>?_;rw[<-dQ Sv.renew d hlt] at ht;rcases List.mem_or_eq_of_mem_set ht with ht|rfl
   ·exact C.out.segs t ht
   have:=C.out.segs _ (i_ ad);rw[bV _ _ hlt] at this;exact⟨Sv.renew_is this.1,this.2⟩
  have HW:Hid (W=(((((((wr.setCell ⟨r,i*7,none⟩ (.slice a5 n5 k5)).setCell ⟨r,i*7+1,none⟩ (I 0)).setCell ⟨r,i*7+2,none⟩ (I 0)).setCell ⟨r,i*7+3,none⟩ (.bool false)).setCell ⟨r,i*7+4,none⟩ (I 0)).setCell ⟨r,i*7+5,none⟩ (I 0)).setCell ⟨r,i*7+6,none⟩ (Zn))):=hW;clear Q hW;clear ah v aD R K fr;go_wp2_with fail;go_region
  all_goals
   go_wp2_with fail;rw[<-HW.out];exact⟨⟨i+1,hlt,by go_num,ay.out.later ⟨rfl,rfl,rfl,b_ _,λ_ _=>rfl⟩⟩,by simp[intOf];omega⟩
 obtain rfl:i=d.length:=by omega
 have aQ:Hid (bM w0 wr nb n0 c (s.blame f m)):=by
  have h1:=C.out;rw[jN Sv.renew d (b_ _)] at h1;rw[<-bk.out];exact⟨_,h1⟩
 go_wp2_with fail;go_ret;exact⟨rfl,aQ.out⟩
end
end Go.Proofs.YtgamgomepdfgdaaGreat
