import Derived.Test.YtgamgomepdfgdaaGreatAM12
set_option maxRecDepth 100000
set_option maxHeartbeats 8000000
namespace Go.Proofs.YtgamgomepdfgdaaGreat
open Go.RowKit Go.Proofs.Tryz
section
variable{c:Cfg}{b n0 nb:Nat}{z:Nz}{f:Sm}{s:Ts}{u v:Value}{w w' w0:World}
theorem ai.keepC {o:Nat}(h:ai w w' λk=>k=nb\/v.ownBlock=some k)(h1:b≠nb)(h2:v.ownBlock≠some b)(hc:w.cell? ⟨b,o,none⟩=some u):w'.cell? ⟨b,o,none⟩=some u:=cG h (λe=>e.elim h1 h2) hc
theorem tV {m:List Sm}(h:aS w0 w nb n0 c s z)(hI:s.Inv c)(hs:s.segs=f::m)(hn:(n0+4*s.ids.length+136)*32<=140737488355328)(hi:s.ids.length<1048576000)(HC:Hid ((aB s.tip f.l).2=0)):
 c_ 178 #[Px nb] w λe w'=>e=.returned (.bool true)/\bM w0 w' nb n0 c (s.conflict f m):=by
 have ad:Hid (s.outs.length<1048576000/\s.segs.length<=64):=⟨by have:=hI.cnt;omega,by have:=cY hI;omega⟩;obtain⟨aC,mv,a1,qv,sv,ov,q,tl,zs⟩:=z;have aa:=h.ss.trans hs
 obtain⟨y,V,rfl⟩:∃y V,zs=y::V:=by
  cases zs with
  |nil=>cases aa
  |cons y V=>exact⟨y,V,rfl⟩
 rw[C_] at aa;injection aa with hyx hys
 obtain⟨g,J,rfl⟩:∃g J,sv=s_ g 0 (V.length+1) J:=by
  rcases h.srow.2 with ⟨_,h0⟩|⟨g,aP,aZ,e,_⟩
  ·simp at h0
  exact⟨g,aP,e⟩
 obtain⟨k,aq⟩:=h.segs y D_;have hf:=hI.sm f (by rw[hs];exact D_)
 have aw:f.l.length<=8:=by
  have:=hI.tr;rw[hs,aO] at this;omega
 have v:y.cl.length=f.l.length:=by rw[k.l.len,hyx]
 have E:y.cl.map Prod.fst=f.l:=by rw[<-hyx];exact k.l.fst
 obtain⟨L,A,O⟩:=k.l.row.form;obtain⟨ta,tn,tc,ab⟩:=k.sl;have ar:s.outs.length<=s.ids.length:=by have:=hI.cnt;omega
 have hM:∀W,Bl w W->c_ 217 #[aC,.slice L y.cl.length A] W λe w'=>(∃u,e=.returned (.tuple #[u,I (aB s.tip f.l).2])/\cu w' (n0+4*s.outs.length+4*f.l.length) u (aB s.tip f.l).1)/\Bl W w':=λW S=>by
  rw[<-O];exact jM y.cl f.l aC y.lv s.tip (n0+4*s.outs.length) W (h.tip.later S) E (k.l.row.later S) (λx hx=>(k.l.eds x hx).later (bj h.below S)) (λx hx=>(hf.eds x hx).2) (e_ (u_ 32 (show n0+4*s.outs.length+4*f.l.length+104<=n0+4*s.ids.length+136 by omega)) hn) aw
 have Q:∀j (u:Value),(cSg y)[j]? =some u->w.cell? ⟨g,j,none⟩=some u:=λj u P=>by
  have h7:j<7:=by have:=(N_.1 P).1;exact this
  have:=(Sl.of_row h.srow).cell (j:=j) (u:=u) (by
   rw[F_,V_ (by show j<7;exact h7)];exact P)
  rwa [O_] at this
 have hC:cSg y=[.slice L y.cl.length A,I f.fails,I f.by_,.bool (f.by_ !=0),I (cr f.job),I y.til,.slice ta tn tc]:=by rw[cSg,O,ab,hyx]
 rw[hC] at Q;have d0:=Q 0 (.slice L y.cl.length A) rfl;have d1:=Q 1 (I f.fails) rfl;have d2:=Q 2 (I f.by_) rfl;have d3:=Q 3 (.bool (f.by_ !=0)) rfl;have d4:=Q 4 (I (cr f.job)) rfl;have d5:=Q 5 (I y.til) rfl;have d6:=Q 6 (.slice ta tn tc) rfl;have a0:=h.box.lt;obtain⟨aD,aF,aE,rfl⟩:=h.tip.form;have HN:=hd h;have ah:Hid (dC w0 w (s.top n0) y/\∀b,y.lv.ownBlock=some b->qv.ownBlock≠some b):=⟨k,aq⟩;have HY:Hid (y.x=f/\V.map Sv.x=m/\y.lv=.slice L y.cl.length A/\y.tv=.slice ta tn tc/\y.cl.length=f.l.length/\y.cl.map Prod.fst=f.l):=⟨hyx,hys,O,ab,v,E⟩;have HM:=hd hM;have aM:=h.box.c 11 (s_ g 0 (V.length+1) J);have c7:=h.box.c 7 (.slice aD aF aE);obtain⟨d,r⟩:∃d,d=y.cl.length:=⟨_,rfl⟩;rw[<-r] at d0 HM HY;have HZ:=hd (r.trans v);have o:=hd r;have aY:d<=8:=by omega
 have au:1<=d:=by have:=S_.2 hf.ne;omega
 obtain⟨v1,ax⟩:∃v1,v1=f.fails:=⟨_,rfl⟩;obtain⟨v2,ay⟩:∃v2,v2=f.by_:=⟨_,rfl⟩;obtain⟨v3,az⟩:∃v3,v3=(f.by_ !=0):=⟨_,rfl⟩;obtain⟨v4,aA⟩:∃v4,v4=cr f.job:=⟨_,rfl⟩;rw[<-ax] at d1;rw[<-ay] at d2;rw[<-az] at d3;rw[<-aA] at d4;clear ax ay az aA;clear h k aq hM hC Q hyx hys O ab E v hf r aw ar;go_enter func178,ntmps178;go_upto_region 8 with fail;have X6:=Bx.new w #[.slice L d A,I v1,I v2,.bool v3,I v4,I y.til,.slice ta tn tc] 170;have i:Hid (Bl w (w.alloc (.cells #[.slice L d A,I v1,I v2,.bool v3,I v4,I y.til,.slice ta tn tc] 170))):=af _ _;generalize w.alloc (.cells #[.slice L d A,I v1,I v2,.bool v3,I v4,I y.til,.slice ta tn tc] 170)=w6 at *;have aj:=hd X6;have x0:=X6.c 0 (.slice L d A);have e7:=ae i.out c7;have am:=HM.out w6.drew ⟨i.out.os,i.out.tape,i.out.output,i.out.size,i.out.block⟩;clear X6 d0 d1 d2 d3 d4 d5 d6 aM HM;go_cut [5,6] from 11 (λt5 t6 wz=>bD t5/\t6=I (aB s.tip f.l).2/\cu wz (n0+4*s.outs.length+4*f.l.length) t5 (aB s.tip f.l).1/\Bl w6 wz)
 case first=>
  go_region_held_law (λw'=>w'.cell? ⟨nb,7,none⟩=some (.slice aD aF aE)/\w'.cell? ⟨w.heap.size,0,none⟩=some (.slice L d A)) (go_keep) ((go_at_call 217;refine am.mono ?_;rintro e w7 ⟨⟨u,rfl,P⟩,n⟩;obtain⟨ua,un,uc,rfl⟩:=P.form;have HU:=hd P;have aH:Hid (Bl w6 w7):=⟨n.os,n.tape,n.output,n.size,n.block⟩;have y7:=ae n e7;have U:=ae n x0;clear P n))
  all_goals
   go_wp2_with fail;go_meet
   case rel=>exact⟨⟨_,_,_,rfl⟩,rfl,HU.out,aH.out⟩
 obtain⟨⟨ua,un,uc,rfl⟩,rfl,P,Y⟩:=hcut;rename World=>w8;have HU:=hd P;have aI:=hd (i.out.trans (Y.mono i.out.size));have aL:=hd (aj.out.later Y);obtain⟨kn,N⟩:∃kn,kn=(aB s.tip f.l).2:=⟨_,rfl⟩;rw[<-N];have aK:=hd N;have aX:kn<=d:=by rw[N,HZ.out];exact dg _ _
 clear P Y aj i am x0 e7 N;obtain rfl:kn=0:=by rw[aK.out,HC.out]
 obtain⟨U,R,v⟩:∃U R,y.cl=U::R:=by
  cases hy:y.cl with
  |nil=>have h1:=o.out;rw[hy] at h1;simp at h1;omega
  |cons a b=>exact⟨a,b,rfl⟩
 have M:=hd v;have av:=o.out.symm;have h8:=HN.out.later aI.out
 have X:Sl w8 165 4 (.slice L d A) d ((y.cl.map wOf).flatMap cW):=by
  have:=(h8.segs y D_).1.l.row;rwa [HY.out.2.2.1,av] at this
 obtain⟨gl,ol,a2,aR,_⟩:=X.addr (by omega);cases aR
 have dI:w8.cell? ⟨gl,ol,none⟩=some (I U.1.1):=by
  have:=X.cell (j:=0) (u:=I U.1.1) (by rw[v];rfl);rwa [Nat.add_zero] at this
 have D:=D0 h8 U.1.1 3 ad.out.1;have x0:=aL.out.c 0 (s_ gl ol d A);have aT:ov.ownBlock≠some w.heap.size:=λe=>by have:=(f_ HN.out.outs _ e).2;omega
 have aU:Hid (∀x∈y.cl.map wOf,bD x.2.2.2):=λx hx=>by
  obtain⟨t,ht,rfl⟩:=q_.1 hx;exact(ah.out.1.l.eds t ht).form
 obtain⟨ac,F⟩:∃ac,ac=U.1.1:=⟨_,rfl⟩;rw[<-F] at dI D;have aJ:=hd F;clear F;clear h8 X c7;go_wp2_with fail;go_fit D;rintro e w9 ⟨rfl,⟨a3,h9⟩,ao⟩;have a6:=ai.keepC ao (by omega) aT x0
 have hP:=nC (y.cl.map wOf) (s_ gl ol d A) 1 d w9 (by
  have:=(h9.segs y D_).1.l.row;rw[HY.out.2.2.1,<-o.out] at this
  rw[d_,<-o.out];exact this) aU.out au (by rw[d_,<-o.out];exact b_ _) (by rw[d_,<-o.out];omega)
 have H9:=hd h9;rw[show ((1:Nat):Int)=1 from rfl] at hP;clear h9 ao D x0;go_wp2_with fail;go_fit hP;rintro e K ⟨⟨a5,rfl,p⟩,T⟩;obtain⟨B,H,rfl⟩:=ag p;obtain⟨W,S⟩:∃W,W=K.alloc (.cells #[.slice B (d-1) H,I 0,I 0,.bool false,I 0,I 0,Zn] 170):=⟨_,rfl⟩;have Z:Bl K W:=by rw[S];exact af _ _
 have ap:Sl W 170 7 (s_ (K.heap.size) 0 1 1) 1 [.slice B (d-1) H,I 0,I 0,.bool false,I 0,I 0,Zn]:=by rw[S];exact zn K _
 have ak:=H9.out.later (bj T Z);have aV:R.length=d-1:=by have h1:=o.out;rw[M.out,List.length_cons] at h1;omega
 have G:W.ownsRow w9.heap.size 165 4 (.slice B (d-1) H) R.length ((((y.cl.map wOf).drop 1).take (d-1)).flatMap cW):=by
  rw[aV];exact aN p λb hb=>Z.block b (f_ p b hb).2
 have C:=D2 ak [cx (R.map Prod.fst) (.slice B (d-1) H) R] (s_ (K.heap.size) 0 1 1) ap (λt ht=>by
  obtain rfl:=o_.1 ht;refine⟨nD (base:=w9.heap.size) (qs:=((y.cl.map wOf).drop 1).take (d-1)) ?_ G λt ht=>ah.out.1.l.eds t (by rw[M.out];exact List.mem_cons_of_mem _ ht),gz G H9.out.row (b_ _)⟩
  rw[M.out,C_,List.drop_one,List.tail_cons,m_ (by rw[d_];omega)]) (by show 1<=8;decide) ad.out.2
 rw[S] at C;clear p T ak G ap Z hP S;go_wp2_with fail;go_fit C;rintro e aW ⟨rfl,⟨a4,al⟩,an⟩
 have aG:Hid (bM w0 aW nb n0 c (s.conflict f m)):=by
  have he:({s with outs:=s.outs++[(ac,3)],segs:=(fu [cx (R.map Prod.fst) (.slice B (d-1) H) R]++V).map Sv.x}:Ts)=s.conflict f m:=by
   have aQ:f.l=U.1::R.map Prod.fst:=by rw[<-HY.out.2.2.2.2.2,M.out];rfl
   rw[w_,zm rfl,HY.out.2.1];simp only[Ts.conflict,aQ,aJ.out];rfl
  rw[<-he];exact⟨_,al⟩
 clear al an C;go_wp2_with fail;go_ret;exact⟨rfl,aG.out⟩
variable{ids:List Nat}{q:List Pw}{tl:List Tp}{y:Sv}{idv mv ov ov' qv sv sv' tip v1 v2:Value}{w1 w5:World}
theorem wS:(prog.info? 110).map (λi=>(i.zero,i.size,i.bytes))=some (some (.agg #[.int .i64 0,.slice none 0 0]),2,32):=by kernel_rfl
theorem D5 (c:Cfg)(tip mv idv qv sv ov tip':Value)(a b t:Nat):(dS c tip mv idv qv sv ov a b t).setIfInBounds 7 tip'=dS c tip' mv idv qv sv ov a b t:=rfl
theorem D6 (c:Cfg)(tip mv idv qv sv ov mv':Value)(a b t:Nat):(dS c tip mv idv qv sv ov a b t).setIfInBounds 8 mv'=dS c tip mv' idv qv sv ov a b t:=rfl
theorem CE (c:Cfg)(tip mv idv qv sv ov ov':Value)(a b t:Nat):(dS c tip mv idv qv sv ov a b t).setIfInBounds 12 ov'=dS c tip mv idv qv sv ov' a b t:=rfl
structure CD (w0 w wr:World)(nb tb by_:Nat)(c:Cfg)(s:Ts)(tip mv idv qv sv ov:Value)(k n:Nat)(outs:List (Nat×Nat))(ids:List Nat):Prop where
 ex:∃ov' iv,Bx wr nb 163 (dS c tip mv idv qv sv ov' s.acked s.begun s.now)/\wr.ownsRow w0.heap.size 99 3 ov' k (oc 0 outs)/\dd w ov ov'/\Bx wr tb 110 #[.int .i64 by_,iv]/\wr.ownsRow w.heap.size 3 1 iv n (ids.map cI)
 only:ai w wr λk=>k=nb\/ov.ownBlock=some k
def gO (outs:List (Nat×Nat))(ids:List Nat):List (Nat×Nat):=outs++ids.map λx=>(x,1)
def gm (cl:List Rd):List Nat:=cl.map λy=>y.1.1
theorem tY (cl:List Rd){i:Nat}(h:i<cl.length):gm (cl.take (i+1))=gm (cl.take i)++[cl[i].1.1]:=by
 rw[gm,g_ h,w_];rfl
theorem tX (outs:List (Nat×Nat))(ids:List Nat)(x:Nat):gO outs (ids++[x])=gO outs ids++[(x,1)]:=by simp[gO]
theorem dd.trans (h:dd w v v1)(h2:dd w1 v1 v2)(hl:w.heap.size<=w1.heap.size):dd w v v2:=λg hg=>by
 rcases h2 g hg with e|e
 ·exact h g e
 exact .inr (e_ hl e)
theorem zo {w8:World}{by_:Nat}{m:List Sm}{tip' mv' iv:Value}{ys:List Sv}(h:aS w0 w8 nb n0 c s ⟨tip,mv,idv,qv,sv,ov,q,tl,y::ys⟩)(hb:Below w0.heap.size w0 w5)(K:aM w8 w5 [163,99,110])(hU:cu w8 (n0+4*s.outs.length+4*f.l.length) tip' (aB s.tip f.l).1)(hB:Bx w5 nb 163 (dS c tip' mv' idv qv sv' ov' s.acked s.begun s.now))(hM:w5.ownsRow w0.heap.size 110 2 mv' (tl.length+1) (tl.flatMap cTp++[.int .i64 by_,iv]))(hi:w5.ownsRow w8.heap.size 3 1 iv ids.length (ids.map cI))(hO:w5.ownsRow w0.heap.size 99 3 ov' (gO s.outs ids).length (oc 0 (gO s.outs ids)))(hS:w5.ownsRow w0.heap.size 170 7 sv' ys.length (ys.flatMap cSg))(hys:ys.map Sv.x=m)(hby:by_=f.by_)(hids:ids=f.l.map Prod.fst):bM w0 w5 nb n0 c (s.land f m):=by
 have d:(s.land f m).outs.length=s.outs.length+f.l.length:=by simp[Ts.land]
 refine⟨⟨tip',mv',idv,qv,sv',ov',q,tl++[((by_,ids),iv)],ys⟩,⟨hb,h.low,hB,?_,?_,?_,λt a=>?_,K.row h.ids (by decide),h.qs,K.row h.row (by decide),h.eds,hys,hS,λt a=>?_,?_⟩⟩
 ·rw[d];exact hU.keptT K (by decide) (by omega)
 ·show (tl++[((by_,ids),iv)]).map Prod.fst=s.main++[(f.by_,f.l.map Prod.fst)];have:tl.map Prod.fst=s.main:=h.mfst;rw[w_,this,hby,hids];rfl
 ·show w5.ownsRow w0.heap.size 110 2 mv' (tl++[((by_,ids),iv)]).length ((tl++[((by_,ids),iv)]).flatMap cTp);rw[a_,r_];simpa[cTp] using hM
 ·rcases E_.1 a with a|a
  ·exact⟨K.sl (h.mids t a).1 (by decide),(h.mids t a).2⟩
  obtain rfl:=o_.1 a;exact⟨Sl.of_row hi,gz hi h.ids (b_ _)⟩
 ·obtain⟨e,g⟩:=h.segs t (List.mem_cons_of_mem _ a);exact⟨e.kept (λb hb=>K.same _ _ (e.l.row.ty hb) (by decide)) (λb hb=>K.same _ _ hb (by decide)) (b_ _),g⟩
 have:(s.land f m).outs=gO s.outs ids:=by rw[hids];simp[Ts.land,gO,Function.comp_def]
 rw[this];exact hO
set_option linter.unusedSimpArgs false in
theorem tZ {m:List Sm}(h:aS w0 w nb n0 c s z)(hI:s.Inv c)(hs:s.segs=f::m)(hn:(n0+4*s.ids.length+136)*32<=140737488355328)(hi:s.ids.length<1048576000)(HC:Hid ((aB s.tip f.l).2=f.l.length/\f.by_≠0)):
 c_ 178 #[Px nb] w λe w'=>e=.returned (.bool true)/\bM w0 w' nb n0 c (s.land f m):=by
 have aL:Hid (s.outs.length+f.l.length<1048576000/\s.segs.length<=64/\s.main.length<1048576000):=by
  have h1:=hI.cnt;have h2:=cY hI;have h3:=hI.main;rw[hs,aO] at h1;exact⟨by omega,by omega,by omega⟩
 obtain⟨bK,mv,ak,qv,sv,ov,q,n,zs⟩:=z;have a6:zs.map Sv.x=f::m:=h.ss.trans hs
 obtain⟨y,J,rfl⟩:∃y J,zs=y::J:=by
  cases zs with
  |nil=>cases a6
  |cons y J=>exact⟨y,J,rfl⟩
 rw[C_] at a6;injection a6 with hyx hys
 obtain⟨g,p,rfl⟩:∃g p,sv=s_ g 0 (J.length+1) p:=by
  rcases h.srow.2 with ⟨_,h0⟩|⟨g,bY,cq,e,_⟩
  ·simp at h0
  exact⟨g,bY,e⟩
 obtain⟨N,b0⟩:=h.segs y D_;have hf:=hI.sm f (by rw[hs];exact D_)
 have bF:f.l.length<=8:=by
  have:=hI.tr;rw[hs,aO] at this;omega
 have a4:y.cl.length=f.l.length:=by rw[N.l.len,hyx]
 have ad:y.cl.map Prod.fst=f.l:=by rw[<-hyx];exact N.l.fst
 obtain⟨la,Z,az⟩:=N.l.row.form;obtain⟨ta,tn,tc,a7⟩:=N.sl;have bA:s.outs.length<=s.ids.length:=by have:=hI.cnt;omega
 have hM:∀W,Bl w W->c_ 217 #[bK,.slice la y.cl.length Z] W λe w'=>(∃u,e=.returned (.tuple #[u,I (aB s.tip f.l).2])/\cu w' (n0+4*s.outs.length+4*f.l.length) u (aB s.tip f.l).1)/\Bl W w':=λW hW=>by
  rw[<-az];exact jM y.cl f.l bK y.lv s.tip (n0+4*s.outs.length) W (h.tip.later hW) ad (N.l.row.later hW) (λx hx=>(N.l.eds x hx).later (bj h.below hW)) (λx hx=>(hf.eds x hx).2) (e_ (u_ 32 (show n0+4*s.outs.length+4*f.l.length+104<=n0+4*s.ids.length+136 by omega)) hn) bF
 have kk:∀j (u:Value),(cSg y)[j]? =some u->w.cell? ⟨g,j,none⟩=some u:=λj u hu=>by
  have h7:j<7:=by have:=(N_.1 hu).1;exact this
  have:=(Sl.of_row h.srow).cell (j:=j) (u:=u) (by
   rw[F_,V_ (by show j<7;exact h7)];exact hu)
  rwa [O_] at this
 have hC:cSg y=[.slice la y.cl.length Z,I f.fails,I f.by_,.bool (f.by_ !=0),I (cr f.job),I y.til,.slice ta tn tc]:=by rw[cSg,az,a7,hyx]
 rw[hC] at kk;have d0:=kk 0 (.slice la y.cl.length Z) rfl;have d1:=kk 1 (I f.fails) rfl;have d2:=kk 2 (I f.by_) rfl;have d3:=kk 3 (.bool (f.by_ !=0)) rfl;have d4:=kk 4 (I (cr f.job)) rfl;have d5:=kk 5 (I y.til) rfl;have d6:=kk 6 (.slice ta tn tc) rfl;have cw:=h.box.lt;obtain⟨aD,aF,aE,rfl⟩:=h.tip.form;have HN:=hd h;have HY:Hid (y.x=f/\J.map Sv.x=m/\y.lv=.slice la y.cl.length Z/\y.tv=.slice ta tn tc/\y.cl.length=f.l.length/\y.cl.map Prod.fst=f.l):=⟨hyx,hys,az,a7,a4,ad⟩;have HM:=hd hM;have bX:=h.box.c 11 (s_ g 0 (J.length+1) p);have c7:=h.box.c 7 (.slice aD aF aE);obtain⟨X,U⟩:∃X,X=y.cl.length:=⟨_,rfl⟩;rw[<-U] at d0 HM HY;have HZ:Hid (X=f.l.length):=U.trans a4;have ab:=hd U;have ck:X<=8:=by omega
 have cj:1<=X:=by have:=S_.2 hf.ne;omega
 obtain⟨v1,a8⟩:∃v1,v1=f.fails:=⟨_,rfl⟩;obtain⟨C,a9⟩:∃C,C=f.by_:=⟨_,rfl⟩;obtain⟨v3,ba⟩:∃v3,v3=(f.by_ !=0):=⟨_,rfl⟩;obtain⟨v4,bG⟩:∃v4,v4=cr f.job:=⟨_,rfl⟩;rw[<-a8] at d1;rw[<-a9] at d2;rw[<-ba] at d3;rw[<-bG] at d4;have HV:Hid (v1=f.fails/\C=f.by_/\v3=(f.by_ !=0)):=⟨a8,a9,ba⟩;clear a8 a9 ba bG;clear h N b0 hM hC kk hyx hys az a7 ad a4 hf U bF bA;go_enter func178,ntmps178;go_upto_region 8 with fail;have X6:=Bx.new w #[.slice la X Z,I v1,I C,.bool v3,I v4,I y.til,.slice ta tn tc] 170;have B:Hid (Bl w (w.alloc (.cells #[.slice la X Z,I v1,I C,.bool v3,I v4,I y.til,.slice ta tn tc] 170))):=af _ _;generalize w.alloc (.cells #[.slice la X Z,I v1,I C,.bool v3,I v4,I y.til,.slice ta tn tc] 170)=w6 at *;have bi:=hd X6;have x0:=X6.c 0 (.slice la X Z);have e7:=ae B.out c7;have bl:=HM.out w6.drew ⟨B.out.os,B.out.tape,B.out.output,B.out.size,B.out.block⟩;clear X6 d0 d1 d2 d3 d4 d5 d6 bX HM;go_cut [5,6] from 11 (λt5 t6 wz=>bD t5/\t6=I (aB s.tip f.l).2/\cu wz (n0+4*s.outs.length+4*f.l.length) t5 (aB s.tip f.l).1/\Bl w6 wz)
 case first=>
  go_region_held_law (λw'=>w'.cell? ⟨nb,7,none⟩=some (.slice aD aF aE)/\w'.cell? ⟨w.heap.size,0,none⟩=some (.slice la X Z)) (go_keep) ((go_at_call 217;refine bl.mono ?_;rintro e w7 ⟨⟨u,rfl,hu⟩,G⟩;obtain⟨ua,un,uc,rfl⟩:=hu.form;have HU:=hd hu;have bO:Hid (Bl w6 w7):=⟨G.os,G.tape,G.output,G.size,G.block⟩;have y7:=ae G e7;have y0:=ae G x0;clear hu G))
  all_goals
   go_wp2_with fail;go_meet
   case rel=>exact⟨⟨_,_,_,rfl⟩,rfl,HU.out,bO.out⟩
 obtain⟨⟨ua,un,uc,rfl⟩,rfl,hu,a2⟩:=hcut;rename World=>w8;have HU:=hd hu;have bP:Hid (Bl w w8):=B.out.trans (a2.mono B.out.size);have aR:Hid (Bx w8 w.heap.size 170 #[.slice la X Z,I v1,I C,.bool v3,I v4,I y.til,.slice ta tn tc]):=bi.out.later a2;obtain⟨Y,ay⟩:∃Y,Y=(aB s.tip f.l).2:=⟨_,rfl⟩;rw[<-ay];have bS:=hd ay;have cg:Y<=X:=by rw[ay,HZ.out];exact dg _ _
 clear hu a2 bi B bl x0 e7 ay;obtain rfl:Y=X:=by rw[bS.out,HZ.out,HC.out.1]
 obtain rfl:v3=true:=by rw[HV.out.2.2];simpa using HC.out.2
 have cv:((Y:Int)==0)=false:=beq_false_of_ne (by omega);obtain⟨i0,b2,cb,cc,cd⟩:=info_parts jh;obtain⟨j0,b3,b8,b9,ca⟩:=info_parts wS;have h8:aS w0 w8 nb n0 c s ⟨.slice aD aF aE,mv,ak,qv,s_ g 0 (J.length+1) p,ov,q,n,y::J⟩:=HN.out.later bP.out
 have aZ:Sl w8 165 4 (.slice la Y Z) Y ((y.cl.map wOf).flatMap cW):=by
  have:=(h8.segs y D_).1.l.row;rwa [HY.out.2.2.1,<-ab.out] at this
 obtain⟨gl,ol,cy,b4,_⟩:=aZ.addr (by omega);cases b4
 have am:=hd aZ;have v:=hd h8;have x2:=aR.out.c 2 (I C);have x3:=aR.out.c 3 (.bool true);have b7:=h8.box.c 7 (.slice aD aF aE);have f7:=h8.box.fr 7;have ch:=h8.box.lt;have cm:=aP x2;clear h8 aZ c7;go_upto_region 18 with fail
 have bh:Hid (CD w0 w8 ((w8.setCell ⟨nb,7,none⟩ (.slice ua un uc)).alloc (.cells #[I C,Zn] 110)) nb w8.heap.size C c s (.slice ua un uc) mv ak qv (s_ g 0 (J.length+1) p) ov s.outs.length 0 s.outs []):=by
  have h1:=v.out.box.set 7 (.slice ua un uc);rw[D5] at h1;have h2:=t_ v.out.outs (ah w8 nb 7 (.slice ua un uc)) (d7 v.out.outs v.out.box (by decide));have h3:=Bx.new (w8.setCell ⟨nb,7,none⟩ (.slice ua un uc)) #[I C,Zn] 110;rw[show (w8.setCell ⟨nb,7,none⟩ (.slice ua un uc)).heap.size=w8.heap.size by simp] at h3;exact⟨⟨ov,Zn,h1.mk _,p_ h2 _,dd.refl _ _,h3,B_ _ _ _ _⟩,((ai.refl w8 λk=>k=nb\/ov.ownBlock=some k).set (.inl (.inl rfl))).trans (ai.of_below (S:=λ_=>False) (af _ _)) λ_ h=>h.elim⟩
 generalize (w8.setCell ⟨nb,7,none⟩ (.slice ua un uc)).alloc (.cells #[I C,Zn] 110)=cA at *;have bH:¬(w.heap.size=nb):=by omega
 have bB:ov.ownBlock≠some w.heap.size:=λe=>by have:=(f_ HN.out.outs _ e).2;omega
 have bs:¬(gl=nb):=λe=>am.out.ne v.out.box (by decide) (by rw[e];rfl);have bt:ov.ownBlock≠some gl:=λe=>(Sl.of_row v.out.outs).apart am.out (by decide) e rfl;have ce:gl<w8.heap.size:=am.out.lt rfl;clear x2 x3 b7 f7;go_wp2_with fail;go_loopw [8] (λiv wr=>∃i:Nat,i<=Y/\iv=I i/\Hid (CD w0 w8 wr nb w8.heap.size C c s (.slice ua un uc) mv ak qv (s_ g 0 (J.length+1) p) ov (s.outs.length+i) i (gO s.outs (gm (y.cl.take i))) (gm (y.cl.take i)))) (λi _=>Y-(intOf i).toNat)
 case atStart=>exact⟨0,k_ _,rfl,by simpa[gO,gm] using bh⟩
 obtain⟨i,ct,rfl,ax⟩:=hrel;by_cases hlt:i<Y
 ·obtain⟨⟨aC,iv,r,E,av,O,M⟩,A⟩:=ax.out;have bw:i<y.cl.length:=by rw[<-ab.out];exact hlt
  have hS:=tY y.cl bw;have x0:wr.cell? ⟨w.heap.size,0,none⟩=some (s_ gl ol Y Z):=cG A (λe=>e.elim bH bB) (aR.out.cell (i:=0) rfl)
  have dI:wr.cell? ⟨gl,ol+i*4,none⟩=some (I y.cl[i].1.1):=cG A (λe=>e.elim bs bt) (am.out.cell (j:=i*4) (by
   have:=aq cW 4 (λ_=>rfl) (y.cl.map wOf) i 0 (by rw[d_];exact bw) (by decide)
   simpa[cW,wOf] using this))
  obtain⟨id,bv⟩:∃id,id=y.cl[i].1.1:=⟨_,rfl⟩;rw[<-bv] at dI hS;have HS:=hd hS;obtain⟨oa,bJ,rfl⟩:=ag E;obtain⟨H,d,rfl⟩:=ag M;have R:=A.size;have b1:w0.heap.size<=wr.heap.size:=e_ v.out.below.size R;have aI:=sZ nb id 1 (s.outs.length+i) w0.heap.size oa bJ _ _ wr r rfl E (cf E r (by decide)) b1 (by have:=aL.out.1;have:=HZ.out;omega);have aK:=hd r;have ao:=hd E;have an:=hd av;have ap:=hd O;have L:=hd M;have aQ:=hd A;clear r E av O M A ax bv hS;go_wp2_with fail;go_fit aI;rintro e D ⟨rfl,o2,aW,bm,bk,V⟩;rw[CE] at aW;have bE:(Value.slice H i d).ownBlock≠some w8.heap.size:=cf L.out ap.out (by decide);have bq:¬(w8.heap.size=nb\/(Value.slice oa (s.outs.length+i) bJ).ownBlock=some w8.heap.size):=λe=>e.elim (by omega) (cf ao.out ap.out (by decide));have F:Bx D w8.heap.size 110 #[I C,.slice H i d]:=ap.out.kept V bq
  have aG:D.ownsRow w8.heap.size 3 1 (.slice H i d) i ((gm (y.cl.take i)).map cI):=aN L.out λb hb=>V.block b (f_ L.out b hb).2 λe=>by
   rcases e with e|e
   ·exact cf L.out aK.out (by decide) (by rw[hb,e])
   exact(Sl.of_row L.out).apart (Sl.of_row ao.out) (by decide) hb e
  have cB:=cG V (λe=>by
   rcases e with e|e
   ·exact bH e
   rcases an.out _ e with e|e
   ·exact bB e
   omega) x0
  have cs:=cG V (λe=>by
   rcases e with e|e
   ·exact bs e
   rcases an.out _ e with e|e
   ·exact bt e
   omega) dI
  have c1:=F.c 1 (.slice H i d);have cn:∀o,(D.alloc o).cell? ⟨w8.heap.size,1,none⟩=some (.slice H i d):=λo=>(F.mk o).cell (i:=1) rfl;have cx:=F.lt;have aU:=hd aG;have bg:=hd F;have bL:=hd aW;have bW:=hd bm;have bT:Hid (dd w8 ov o2):=dd.trans an.out (dd.mk (w:=wr) bk (b_ _)) R;have bV:=hd V;have q1:Hid (i+1<=maxLen):=by show _<=_;unfold maxLen;omega
  have q2:Hid ((i+1)*8<=140737488355328):=by show _<=_;omega
  have br:w8.heap.size<=D.heap.size:=by omega
  clear F aG aW bm bk V aI x0 dI bq;go_wp2_with fail;go_region_law ((refine aT rfl _ _ 56 rfl w8.heap.size _ i0 _ 1 8 underlying56 b2 cb cc cd rfl (by decide) (.slice H i d) _ _ rfl (p_ aU.out _) ⟨D.heap.size,0,none⟩ 1 1 [I id] rfl rfl (au D _ _) (by simp[Value.oneCell']) q1.out q2.out (e_ br (by simp)) ?_;intro v3 w3 hown3 hg3 hloc3;obtain⟨P,Q,rfl⟩:=ag hown3;have aa:Hid (Bx w3 w8.heap.size 110 #[I C,.slice H i d]):=Bx.grown (bg.out.mkd _) hg3 (λe=>bE e.symm);have d1:w3.cell? ⟨w8.heap.size,1,none⟩=some (.slice H i d):=aa.out.cell (i:=1) rfl;have f3:=aa.out.fr 1;have O3:=hd hown3;have G3:Hid (D.grownBy w3 (Value.slice H i d).ownBlock):=(v_ D _ _).trans ⟨hg3.os,hg3.tape,hg3.output,hg3.size,hg3.block⟩;clear hown3 hg3 hloc3))
  all_goals
   go_wp2_with fail;refine⟨⟨i+1,hlt,by go_num,?_⟩,by simp[intOf];omega⟩;have k3:aM D w3 [3]:=aM.of_only (ai.of_grown (S:=λk=>(Value.slice H i d).ownBlock=some k) G3.out λk a=>a) λk a=>⟨3,by simp,aV aU.out a⟩;have bZ:=k3.bx bL.out (by decide);have bn:=k3.row bW.out (by decide);have bu:(Value.slice P (i+1) Q).ownBlock≠some w8.heap.size:=cf O3.out aa.out (by decide)
   have T:(gO s.outs (gm (y.cl.take i))).length=s.outs.length+i:=by
    have:=ab.out;simp[gO,gm];omega
   refine⟨⟨o2,.slice P (i+1) Q,Bx.other bZ (by omega) _ _,?_,bT.out,aa.out.set 1 _,?_⟩,?_⟩
   ·rw[HS.out,tX,j2,O_,T];exact t_ bn (ah _ _ _ _) (d7 bn aa.out (by decide))
   ·rw[HS.out,w_];exact t_ O3.out (ah _ _ _ _) (.inr bu)
   refine((aQ.out.trans bV.out λk a=>?_).trans (ai.of_grown (S:=λk=>(Value.slice H i d).ownBlock=some k) G3.out λk a=>a) λk a=>.inr (f_ aU.out k a).1).trans (ai.of_grown (S:=λk=>k=w8.heap.size) (ah _ _ _ _) λk a=>by cases a;rfl) λk a=>.inr (by rw[a];exact b_ _);rcases a with a|a
   ·exact .inl (.inl a)
   exact(an.out k a).imp .inr λh=>h
 obtain rfl:i=Y:=by omega
 obtain⟨⟨aC,iv,r,E,av,O,M⟩,A⟩:=ax.out;obtain⟨H,d,rfl⟩:=ag M;have aj:w8.ownsRow w0.heap.size 110 2 mv n.length (n.flatMap cTp):=v.out.mrow
 have K8:aM w8 wr [163,99]:=aM.of_only A λk a=>by
  rcases a with rfl|a
  ·exact⟨_,by simp,v.out.box.ty⟩
  exact⟨99,by simp,aV v.out.outs a⟩
 have aA:=K8.row aj (by decide);obtain⟨ma,mc,rfl⟩:=ag aA;have b6:(Value.slice ma n.length mc).ownBlock≠some nb:=cf aA r (by decide);have bz:(Value.slice ma n.length mc).ownBlock≠some w8.heap.size:=λe=>by have:=(f_ aj _ e).2;omega
 have aK:=hd r;have ap:=hd O;have bc:=hd aA;have L:=hd M;have ao:=hd E;have aQ:=hd A;have bR:=hd K8;have c8:=r.c 8 (.slice ma n.length mc);have co:∀o,(wr.alloc o).cell? ⟨nb,8,none⟩=some (.slice ma n.length mc):=λo=>(r.mk o).cell (i:=8) rfl;have f8:=r.fr 8;have t0:=O.c 0 (I C);have t1:=O.c 1 (.slice H i d);have ci:=r.lt;have R:=A.size;have aJ:w0.heap.size<=wr.heap.size:=e_ v.out.below.size R
 have bC:n.length<1048576000:=by
  have h1:n.map Prod.fst=s.main:=v.out.mfst;have h2:=aL.out.2.2;rw[<-h1,d_] at h2;exact h2
 have q1:Hid (n.length+1<=maxLen):=by show _<=_;unfold maxLen;omega
 have q2:Hid ((n.length+1)*32<=140737488355328):=e_ (u_ 32 (show n.length+1<=1048576000 by omega)) (by decide);clear r E av O M A ax aA aj K8 bC;go_wp2_with fail;go_region_law ((refine aT rfl _ _ 106 rfl w0.heap.size _ j0 _ 2 32 underlying106 b3 b8 b9 ca rfl (by decide) (.slice ma n.length mc) _ _ rfl (p_ bc.out _) ⟨wr.heap.size,0,none⟩ 1 1 [I C,.slice H i d] rfl rfl (au wr _ _) (by simp[Value.oneCell']) q1.out q2.out (e_ aJ (by simp)) ?_;intro v3 w3 hown3 hg3 hloc3;obtain⟨P,Q,rfl⟩:=ag hown3;have al:Hid (Bx w3 nb 163 (dS c (.slice ua un uc) (.slice ma n.length mc) ak qv (s_ g 0 (J.length+1) p) aC s.acked s.begun s.now)):=Bx.grown (aK.out.mkd _) hg3 (λe=>b6 e.symm);have d8:w3.cell? ⟨nb,8,none⟩=some (.slice ma n.length mc):=al.out.cell (i:=8) rfl;have f3:=al.out.fr 8;have s0:=K_ hg3 (ae (aw wr _) t0) (λe=>bz e.symm);have s1:=K_ hg3 (ae (aw wr _) t1) (λe=>bz e.symm);have O3:=hd hown3;have G3:Hid (wr.grownBy w3 (Value.slice ma n.length mc).ownBlock):=(v_ wr _ _).trans ⟨hg3.os,hg3.tape,hg3.output,hg3.size,hg3.block⟩;clear hown3 hg3 hloc3))
 all_goals
  have ar:aM wr w3 [110]:=aM.of_only (ai.of_grown (S:=λk=>(Value.slice ma n.length mc).ownBlock=some k) G3.out λk a=>a) λk a=>⟨110,by simp,aV bc.out a⟩;have a0:ai w3 (w3.setCell ⟨nb,8,none⟩ (.slice P (n.length+1) Q)) (λk=>k=nb):=(ai.refl _ _).set (.inl rfl);have ac:aM w3 (w3.setCell ⟨nb,8,none⟩ (.slice P (n.length+1) Q)) [163]:=aM.of_only a0 λk a=>⟨_,by simp,a▸al.out.ty⟩
  have aX:Bx (w3.setCell ⟨nb,8,none⟩ (.slice P (n.length+1) Q)) nb 163 (dS c (.slice ua un uc) (.slice P (n.length+1) Q) ak qv (s_ g 0 (J.length+1) p) aC s.acked s.begun s.now):=by
   have:=al.out.set 8 (.slice P (n.length+1) Q);rwa [D6] at this
  have bo:=ac.sl (ar.sl (bR.out.sl (Sl.of_row v.out.srow) (by decide)) (by decide)) (by decide)
  have bI:(y::J).length<=64:=by
   have h1:(y::J).map Sv.x=s.segs:=v.out.ss;have h2:=aL.out.2.1;rw[<-h1,d_] at h2;exact h2
  have aH:=rR nb [] (y::J) (Zn) _ _ _ aX rfl (Sl.nil _ _ _) bo (by simp) (λt ht=>(v.out.segs t ht).1.frm) (by decide) bI;have bN:=hd aX;have bd:Hid (ai wr (w3.setCell ⟨nb,8,none⟩ (.slice P (n.length+1) Q)) λk=>k=nb\/(Value.slice ma n.length mc).ownBlock=some k):=(ai.of_grown (S:=λk=>k=nb\/(Value.slice ma n.length mc).ownBlock=some k) G3.out λk a=>.inr a).trans a0 λk a=>.inl (.inl a);have bU:Hid ((w3.setCell ⟨nb,8,none⟩ (.slice P (n.length+1) Q)).ownsRow w0.heap.size 110 2 (.slice P (n.length+1) Q) (n.length+1) (n.flatMap cTp++[I C,.slice H i d])):=ac.row O3.out (by decide);have bQ:Hid ((w3.setCell ⟨nb,8,none⟩ (.slice P (n.length+1) Q)).ownsRow w8.heap.size 3 1 (.slice H i d) i ((gm (y.cl.take i)).map cI)):=ac.row (ar.row L.out (by decide)) (by decide);have bf:Hid ((w3.setCell ⟨nb,8,none⟩ (.slice P (n.length+1) Q)).ownsRow w0.heap.size 99 3 aC (s.outs.length+i) (oc 0 (gO s.outs (gm (y.cl.take i))))):=ac.row (ar.row ao.out (by decide)) (by decide);clear ar a0 ac aX bo bI;generalize w3.setCell ⟨nb,8,none⟩ (.slice P (n.length+1) Q)=w4 at *;go_wp2_with fail;go_fit aH;rintro e w5 ⟨rfl,⟨cz,aY,bp⟩,a1⟩
  have bb:Hid (bM w0 w5 nb n0 c (s.land f m)):=by
   rw[tU] at aY;have K5:aM w4 w5 [163]:=aM.of_only a1 λk a=>⟨_,by simp,a▸bN.out.ty⟩;have hO:ai w8 w5 λk=>k=nb\/ov.ownBlock=some k\/(Value.slice ma n.length mc).ownBlock=some k:=((ai.mono aQ.out λk a=>a.imp (λh=>h) .inl).trans bd.out λk a=>.inl (a.imp (λh=>h) .inr)).trans a1 λk a=>.inl (.inl a)
   have K:aM w8 w5 [163,99,110]:=aM.of_only hO λk a=>by
    rcases a with rfl|a|a
    ·exact⟨_,by simp,v.out.box.ty⟩
    ·exact⟨99,by simp,aV v.out.outs a⟩
    exact⟨110,by simp,aV v.out.mrow a⟩
   have T:(gm (y.cl.take i)).length=i:=by have:=ab.out;simp[gm];omega
   have b5:(gO s.outs (gm (y.cl.take i))).length=s.outs.length+i:=by rw[gO,a_,d_,T]
   have a5:w0.heap.size<=w4.heap.size:=e_ aJ bd.out.size;refine zo (f:=f) (iv:=.slice H i d) (ids:=gm (y.cl.take i)) (by_:=C) v.out (eJ v.out.below hO λk a=>?_) K HU.out aY (K5.row bU.out (by decide)) (by rw[T];exact K5.row bQ.out (by decide)) (by rw[b5];exact K5.row bf.out (by decide)) (cp bp a5) HY.out.2.1 HV.out.2.1 ?_
   ·rcases a with rfl|a|a
    ·exact v.out.low
    ·exact(f_ v.out.outs k a).1
    exact(f_ v.out.mrow k a).1
   rw[<-HY.out.2.2.2.2.2,m_ (by rw[ab.out];exact b_ _),gm,y_];rfl
  clear aY bp a1 aH;go_wp2_with fail;go_ret;exact⟨rfl,bb.out⟩
end
end Go.Proofs.YtgamgomepdfgdaaGreat
