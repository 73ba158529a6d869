import Derived.Test.YtgamgomepdfgdaaGreatAM12
set_option maxRecDepth 100000
set_option maxHeartbeats 8000000
namespace Go.Proofs.YtgamgomepdfgdaaGreat
open Go.RowKit Go.Proofs.Tryz
section
variable{c:Cfg}{k n n0 nb:Nat}{z:Nz}{f:Sm}{s:Ts}{w w0:World}
theorem pg {cl:List Rd}:((cl.map wOf).drop 0).take (k-0)=(cl.take k).map wOf:=by rw[List.drop_zero,Nat.sub_zero,List.map_take]
theorem ph {cl:List Rd}(h:n=cl.length):((cl.map wOf).drop k).take (n-k)=(cl.drop k).map wOf:=by
 rw[m_ (by rw[G_,d_,h];exact b_ _),List.map_drop]
theorem rU {m:List Sm}(h:aS w0 w nb n0 c s z)(hI:s.Inv c)(hs:s.segs=f::m)(hn:(n0+4*s.ids.length+136)*32<=140737488355328)(HC:Hid ((aB s.tip f.l).2≠0/\(aB s.tip f.l).2<f.l.length)):
 c_ 178 #[Px nb] w λe w'=>e=.returned (.bool true)/\bM w0 w' nb n0 c (s.split f (aB s.tip f.l).2 m):=by
 have aP:Hid (s.segs.length<=64):=e_ (cY hI) (by decide);obtain⟨aG,mv,a5,qv,sv,ov,q,tl,zs⟩:=z;have ak:=h.ss.trans hs
 obtain⟨y,O,rfl⟩:∃y O,zs=y::O:=by
  cases zs with
  |nil=>cases ak
  |cons y O=>exact⟨y,O,rfl⟩
 rw[C_] at ak;injection ak with hyx hys
 obtain⟨g,F,rfl⟩:∃g F,sv=s_ g 0 (O.length+1) F:=by
  rcases h.srow.2 with ⟨_,h0⟩|⟨g,aT,a1,e,_⟩
  ·simp at h0
  exact⟨g,aT,e⟩
 obtain⟨o,aw⟩:=h.segs y D_;have hf:=hI.sm f (by rw[hs];exact D_)
 have aA:f.l.length<=8:=by
  have:=hI.tr;rw[hs,aO] at this;omega
 have Z:y.cl.length=f.l.length:=by rw[o.l.len,hyx]
 have E:y.cl.map Prod.fst=f.l:=by rw[<-hyx];exact o.l.fst
 obtain⟨r,v,L⟩:=o.l.row.form;obtain⟨ta,tn,tc,al⟩:=o.sl;have az:s.outs.length<=s.ids.length:=by have:=hI.cnt;omega
 have hM:∀W,Bl w W->c_ 217 #[aG,.slice r y.cl.length v] W λe w'=>(∃u,e=.returned (.tuple #[u,I (aB s.tip f.l).2])/\cu w' (n0+4*s.outs.length+4*f.l.length) u (aB s.tip f.l).1)/\Bl W w':=λW hW=>by
  rw[<-L];exact jM y.cl f.l aG y.lv s.tip (n0+4*s.outs.length) W (h.tip.later hW) E (o.l.row.later hW) (λx hx=>(o.l.eds x hx).later (bj h.below hW)) (λx hx=>(hf.eds x hx).2) (e_ (u_ 32 (show n0+4*s.outs.length+4*f.l.length+104<=n0+4*s.ids.length+136 by omega)) hn) aA
 have N:∀j (u:Value),(cSg y)[j]? =some u->w.cell? ⟨g,j,none⟩=some u:=λj u M=>by
  have h7:j<7:=by have:=(N_.1 M).1;exact this
  have:=(Sl.of_row h.srow).cell (j:=j) (u:=u) (by
   rw[F_,V_ (by show j<7;exact h7)];exact M)
  rwa [O_] at this
 have hC:cSg y=[.slice r y.cl.length v,I f.fails,I f.by_,.bool (f.by_ !=0),I (cr f.job),I y.til,.slice ta tn tc]:=by rw[cSg,L,al,hyx]
 rw[hC] at N;have d0:=N 0 (.slice r y.cl.length v) rfl;have d1:=N 1 (I f.fails) rfl;have d2:=N 2 (I f.by_) rfl;have d3:=N 3 (.bool (f.by_ !=0)) rfl;have d4:=N 4 (I (cr f.job)) rfl;have d5:=N 5 (I y.til) rfl;have d6:=N 6 (.slice ta tn tc) rfl;have a4:=h.box.lt;obtain⟨aH,aJ,aI,rfl⟩:=h.tip.form;have HN:=hd h;have U:Hid (dC w0 w (s.top n0) y/\∀b,y.lv.ownBlock=some b->qv.ownBlock≠some b):=⟨o,aw⟩;have HY:Hid (y.x=f/\O.map Sv.x=m/\y.lv=.slice r y.cl.length v/\y.tv=.slice ta tn tc/\y.cl.length=f.l.length/\y.cl.map Prod.fst=f.l):=⟨hyx,hys,L,al,Z,E⟩;have HM:=hd hM;have aR:=h.box.c 11 (s_ g 0 (O.length+1) F);have c7:=h.box.c 7 (.slice aH aJ aI);obtain⟨d,D⟩:∃d,d=y.cl.length:=⟨_,rfl⟩;rw[<-D] at d0 HM HY;have HZ:=hd (D.trans Z);have G:=hd D;have a0:d<=8:=by omega
 have aZ:1<=d:=by have:=S_.2 hf.ne;omega
 obtain⟨v1,aC⟩:∃v1,v1=f.fails:=⟨_,rfl⟩;obtain⟨v2,aD⟩:∃v2,v2=f.by_:=⟨_,rfl⟩;obtain⟨v3,aE⟩:∃v3,v3=(f.by_ !=0):=⟨_,rfl⟩;obtain⟨v4,aF⟩:∃v4,v4=cr f.job:=⟨_,rfl⟩;rw[<-aC] at d1;rw[<-aD] at d2;rw[<-aE] at d3;rw[<-aF] at d4;clear aC aD aE aF;clear h o aw hM hC N hyx hys L al E Z hf D aA az;go_enter func178,ntmps178;go_upto_region 8 with fail;have X6:=Bx.new w #[.slice r d v,I v1,I v2,.bool v3,I v4,I y.til,.slice ta tn tc] 170;have i:Hid (Bl w (w.alloc (.cells #[.slice r d v,I v1,I v2,.bool v3,I v4,I y.til,.slice ta tn tc] 170))):=af _ _;generalize w.alloc (.cells #[.slice r d v,I v1,I v2,.bool v3,I v4,I y.til,.slice ta tn tc] 170)=w6 at *;have aq:=hd X6;have x0:=X6.c 0 (.slice r d v);have e7:=ae i.out c7;have av:=HM.out w6.drew ⟨i.out.os,i.out.tape,i.out.output,i.out.size,i.out.block⟩;clear X6 d0 d1 d2 d3 d4 d5 d6 aR HM;go_cut [5,6] from 11 (λt5 t6 wz=>bD t5/\t6=I (aB s.tip f.l).2/\cu wz (n0+4*s.outs.length+4*f.l.length) t5 (aB s.tip f.l).1/\Bl w6 wz)
 case first=>
  go_region_held_law (λw'=>w'.cell? ⟨nb,7,none⟩=some (.slice aH aJ aI)/\w'.cell? ⟨w.heap.size,0,none⟩=some (.slice r d v)) (go_keep) ((go_at_call 217;refine av.mono ?_;rintro e w7 ⟨⟨u,rfl,M⟩,p⟩;obtain⟨ua,un,uc,rfl⟩:=M.form;have HU:=hd M;have aK:Hid (Bl w6 w7):=⟨p.os,p.tape,p.output,p.size,p.block⟩;have y7:=ae p e7;have y0:=ae p x0;clear M p))
  all_goals
   go_wp2_with fail;go_meet
   case rel=>exact⟨⟨_,_,_,rfl⟩,rfl,HU.out,aK.out⟩
 obtain⟨⟨ua,un,uc,rfl⟩,rfl,M,Y⟩:=hcut;rename World=>w8;have HU:=hd M;have aL:=hd (i.out.trans (Y.mono i.out.size));have aQ:=hd (aq.out.later Y);obtain⟨a,H⟩:∃a,a=(aB s.tip f.l).2:=⟨_,rfl⟩;rw[<-H];have S:=hd H;have aW:a<=d:=by rw[H,HZ.out];exact dg _ _
 clear M Y aq i av x0 e7 H;have a2:0<a:=by have:=HC.out.1;rw[<-S.out] at this;omega
 have a3:a<d:=by rw[S.out,HZ.out];exact HC.out.2
 have aY:((a:Int)==0)=false:=beq_false_of_ne (by omega);have aX:(a:Int)<(d:Int):=by omega
 have H8:=hd (HN.out.later aL.out)
 have T:Hid (Sl w8 165 4 (.slice r d v) (y.cl.map wOf).length ((y.cl.map wOf).flatMap cW)):=by
  have:=(H8.out.segs y D_).1.l.row;rw[HY.out.2.2.1] at this;rw[d_];exact this
 have aj:∀x∈y.cl.map wOf,bD x.2.2.2:=λx hx=>by
  obtain⟨t,ht,rfl⟩:=q_.1 hx;exact(U.out.1.l.eds t ht).form
 have aU:(y.cl.map wOf).length=d:=by rw[d_];exact G.out.symm
 have am:Hid (∀W,Bl w8 W->c_ 219 #[.slice r d v,I 0,I a] W λe w'=>(∃v',e=.returned v'/\w'.ownsRow W.heap.size 165 4 v' a (((y.cl.take a).map wOf).flatMap cW))/\Bl W w'):=λW hW=>by
  have:=nC (y.cl.map wOf) (.slice r d v) 0 a W (T.out.later hW) aj (k_ _) (by omega) (by omega);rw[pg] at this;exact this
 have an:Hid (∀W,Bl w8 W->c_ 219 #[.slice r d v,I a,I d] W λe w'=>(∃v',e=.returned v'/\w'.ownsRow W.heap.size 165 4 v' (d-a) (((y.cl.drop a).map wOf).flatMap cW))/\Bl W w'):=λW hW=>by
  have:=nC (y.cl.map wOf) (.slice r d v) a d W (T.out.later hW) aj (by omega) (by omega) (by omega);rw[ph G.out] at this;exact this
 have J:(y.cl.take a).length=a:=by rw[l_,<-G.out];omega
 have K:(y.cl.drop a).length=d-a:=by rw[G_,<-G.out]
 have HI:Hid (∀(W:World) (bA bB:Nat) (vA vB:Value),Bl w8 W->W.ownsRow bA 165 4 vA a (((y.cl.take a).map wOf).flatMap cW)->W.ownsRow bB 165 4 vB (d-a) (((y.cl.drop a).map wOf).flatMap cW)->w8.heap.size<=bA->w8.heap.size<=bB->c_ 218 #[Px nb,s_ (W.heap.size) 0 2 2] (W.alloc (.cells #[vA,I 0,I 0,.bool false,I 0,I 0,Zn,vB,I 0,I 0,.bool false,I 0,I 0,Zn] 170)) λe w'=>e=.returned (.tuple #[])/\bM w0 w' nb n0 c (s.split f a m)/\ai W w' λk=>k=nb):=λW bA bB vA vB hW hA hB lA lB=>by
  refine(zj (bA:=bA) (bB:=bB) (H8.out.later hW) (y.cl.take a) (y.cl.drop a) vA vB (by rw[J];exact hA) (by rw[K];exact hB) (λt ht=>U.out.1.l.eds t (List.mem_of_mem_take ht)) (λt ht=>U.out.1.l.eds t (List.mem_of_mem_drop ht)) (gz hA H8.out.row lA) (gz hB H8.out.row lB) aP.out).mono ?_;rintro e w' ⟨rfl,⟨a6,h1⟩,h2⟩
  have he:({s with segs:=(fu [cx ((y.cl.take a).map Prod.fst) vA (y.cl.take a),cx ((y.cl.drop a).map Prod.fst) vB (y.cl.drop a)]++(y::O).drop 1).map Sv.x}:Ts)=s.split f a m:=by
   rw[rT (by intro e;rw[e] at J;simp at J;omega) (by intro e;rw[e] at K;simp at K;omega),List.map_take,List.map_drop,HY.out.2.2.2.2.2];show ({s with segs:=Sm.new (f.l.take a)::Sm.new (f.l.drop a)::O.map Sv.x}:Ts)=_;rw[HY.out.2.1];rfl
  rw[<-he];exact⟨rfl,⟨_,h1⟩,h2⟩
 have x0:=aQ.out.c 0 (.slice r d v);have V:=am.out w8.drew ⟨rfl,rfl,rfl,b_ _,λ_ _=>rfl⟩;have X:=an.out w8.drew ⟨rfl,rfl,rfl,b_ _,λ_ _=>rfl⟩;have aV:¬(w.heap.size=nb):=by omega
 clear aj aU J K T c7;go_upto_region 14 with fail
 go_region_held_law (λw'=>w'.cell? ⟨w.heap.size,0,none⟩=some (.slice r d v)) (go_keep) (first
  |(go_at_call 219;go_fit V;rintro e wa ⟨⟨va,rfl,ad⟩,A⟩;obtain⟨aa,ka,rfl⟩:=ag ad;have ya:=ae A x0;have ao:=hd ad;have P:Hid (Bl w8 wa):=⟨A.os,A.tape,A.output,A.size,A.block⟩;have au:=an.out wa P.out;clear ad A V X)
  |(go_at_call 219;go_fit X;rintro e wb ⟨⟨vb,rfl,ah⟩,B⟩;obtain⟨ab,kb,rfl⟩:=ag ah;have yb:=ae B x0;have ap:=hd ah;have Q:Hid (Bl w8 wb):=⟨B.os,B.tape,B.output,B.size,B.block⟩;have ar:=am.out wb Q.out;clear ah B V X)
  |(go_at_call 219;go_fit au;rintro e wc ⟨⟨vc,rfl,C⟩,n⟩;obtain⟨ac,kc,rfl⟩:=ag C;have yc:=ae n ya;have R:=HI.out wc w8.heap.size wa.heap.size (.slice aa a ka) (.slice ac (d-a) kc) (bj P.out n) (aN ao.out λb hb=>n.block b (f_ ao.out b hb).2) C (b_ _) P.out.size;clear C n au)
  |(go_at_call 219;go_fit ar;rintro e wc ⟨⟨vc,rfl,C⟩,n⟩;obtain⟨ac,kc,rfl⟩:=ag C;have yc:=ae n yb;have R:=HI.out wc wb.heap.size w8.heap.size (.slice ac a kc) (.slice ab (d-a) kb) (bj Q.out n) C (aN ap.out λb hb=>n.block b (f_ ap.out b hb).2) Q.out.size (b_ _);clear C n ar)
  |(go_at_call 218;go_fit R;rintro e wd ⟨rfl,ax,ay⟩;have yd:=cG ay aV yc;have aM:=hd ax;clear ax ay R))
 all_goals
  go_wp2_with fail;go_ret;exact⟨rfl,by rw[<-S.out];exact aM.out⟩
theorem qu {m:List Sm}(h:aS w0 w nb n0 c s z)(hI:s.Inv c)(hs:s.segs=f::m)(hn:(n0+4*s.ids.length+136)*32<=140737488355328)(HC:Hid ((aB s.tip f.l).2=f.l.length/\f.by_=0/\c.retries<f.fails/\1<f.l.length)):
 c_ 178 #[Px nb] w λe w'=>e=.returned (.bool true)/\bM w0 w' nb n0 c (s.blame f m):=by
 have aY:Hid (s.segs.length<=8):=cY hI;obtain⟨bk,mv,V,qv,sv,ov,q,tl,zs⟩:=z;have aR:zs.map Sv.x=f::m:=h.ss.trans hs
 obtain⟨y,M,rfl⟩:∃y M,zs=y::M:=by
  cases zs with
  |nil=>cases aR
  |cons y M=>exact⟨y,M,rfl⟩
 rw[C_] at aR;injection aR with hyx hys
 obtain⟨g,T,rfl⟩:∃g T,sv=s_ g 0 (M.length+1) T:=by
  rcases h.srow.2 with ⟨_,h0⟩|⟨g,bw,bx,e,_⟩
  ·simp at h0
  exact⟨g,bw,e⟩
 obtain⟨F,a9⟩:=h.segs y D_;have d:=hI.sm f (by rw[hs];exact D_)
 have bh:f.l.length<=8:=by
  have:=hI.tr;rw[hs,aO] at this;omega
 have aK:y.cl.length=f.l.length:=by rw[F.l.len,hyx]
 have Z:y.cl.map Prod.fst=f.l:=by rw[<-hyx];exact F.l.fst
 obtain⟨D,E,ar⟩:=F.l.row.form;obtain⟨ta,tn,tc,aT⟩:=F.sl;have bd:s.outs.length<=s.ids.length:=by have:=hI.cnt;omega
 have hM:∀W,Bl w W->c_ 217 #[bk,.slice D y.cl.length E] W λe w'=>(∃u,e=.returned (.tuple #[u,I (aB s.tip f.l).2])/\cu w' (n0+4*s.outs.length+4*f.l.length) u (aB s.tip f.l).1)/\Bl W w':=λW U=>by
  rw[<-ar];exact jM y.cl f.l bk y.lv s.tip (n0+4*s.outs.length) W (h.tip.later U) Z (F.l.row.later U) (λx hx=>(F.l.eds x hx).later (bj h.below U)) (λx hx=>(d.eds x hx).2) (e_ (u_ 32 (show n0+4*s.outs.length+4*f.l.length+104<=n0+4*s.ids.length+136 by omega)) hn) bh
 have H:∀j (u:Value),(cSg y)[j]? =some u->w.cell? ⟨g,j,none⟩=some u:=λj u hu=>by
  have h7:j<7:=by have:=(N_.1 hu).1;exact this
  have:=(Sl.of_row h.srow).cell (j:=j) (u:=u) (by
   rw[F_,V_ (by show j<7;exact h7)];exact hu)
  rwa [O_] at this
 have hC:cSg y=[.slice D y.cl.length E,I f.fails,I f.by_,.bool (f.by_ !=0),I (cr f.job),I y.til,.slice ta tn tc]:=by rw[cSg,ar,aT,hyx]
 rw[hC] at H;have d0:=H 0 (.slice D y.cl.length E) rfl;have d1:=H 1 (I f.fails) rfl;have d2:=H 2 (I f.by_) rfl;have d3:=H 3 (.bool (f.by_ !=0)) rfl;have d4:=H 4 (I (cr f.job)) rfl;have d5:=H 5 (I y.til) rfl;have d6:=H 6 (.slice ta tn tc) rfl;have bU:=h.box.lt;obtain⟨J,L,K,rfl⟩:=h.tip.form;have HN:=hd h;have aD:Hid (dC w0 w (s.top n0) y/\∀b,y.lv.ownBlock=some b->qv.ownBlock≠some b):=⟨F,a9⟩;have HY:Hid (y.x=f/\M.map Sv.x=m/\y.lv=.slice D y.cl.length E/\y.tv=.slice ta tn tc/\y.cl.length=f.l.length/\y.cl.map Prod.fst=f.l):=⟨hyx,hys,ar,aT,aK,Z⟩;have HM:=hd hM;have bv:=h.box.c 11 (s_ g 0 (M.length+1) T);have c7:=h.box.c 7 (.slice J L K);have c4:=h.box.c 4 (I c.retries);obtain⟨X,S⟩:∃X,X=y.cl.length:=⟨_,rfl⟩;rw[<-S] at d0 HM HY;have HZ:Hid (X=f.l.length):=S.trans aK;have am:=hd S;have bK:X<=8:=by omega
 have bJ:1<=X:=by have:=S_.2 d.ne;omega
 obtain⟨Y,au⟩:∃Y,Y=f.fails:=⟨_,rfl⟩;obtain⟨v2,aU⟩:∃v2,v2=f.by_:=⟨_,rfl⟩;obtain⟨v3,aV⟩:∃v3,v3=(f.by_ !=0):=⟨_,rfl⟩;obtain⟨v4,bi⟩:∃v4,v4=cr f.job:=⟨_,rfl⟩;rw[<-au] at d1;rw[<-aU] at d2;rw[<-aV] at d3;rw[<-bi] at d4;have HV:Hid (Y=f.fails/\v2=f.by_/\v3=(f.by_ !=0)):=⟨au,aU,aV⟩;clear au aU aV bi;clear h F a9 hM hC H hyx hys ar aT Z aK d S bh bd;go_enter func178,ntmps178;go_upto_region 8 with fail;have X6:=Bx.new w #[.slice D X E,I Y,I v2,.bool v3,I v4,I y.til,.slice ta tn tc] 170;have v:Hid (Bl w (w.alloc (.cells #[.slice D X E,I Y,I v2,.bool v3,I v4,I y.til,.slice ta tn tc] 170))):=af _ _;generalize w.alloc (.cells #[.slice D X E,I Y,I v2,.bool v3,I v4,I y.til,.slice ta tn tc] 170)=w6 at *;have a4:=hd X6;have x0:=X6.c 0 (.slice D X E);have e7:=ae v.out c7;have a8:=HM.out w6.drew ⟨v.out.os,v.out.tape,v.out.output,v.out.size,v.out.block⟩;clear X6 d0 d1 d2 d3 d4 d5 d6 bv HM;go_cut [5,6] from 11 (λt5 t6 wz=>bD t5/\t6=I (aB s.tip f.l).2/\cu wz (n0+4*s.outs.length+4*f.l.length) t5 (aB s.tip f.l).1/\Bl w6 wz)
 case first=>
  go_region_held_law (λw'=>w'.cell? ⟨nb,7,none⟩=some (.slice J L K)/\w'.cell? ⟨w.heap.size,0,none⟩=some (.slice D X E)) (go_keep) ((go_at_call 217;refine a8.mono ?_;rintro e w7 ⟨⟨u,rfl,hu⟩,G⟩;obtain⟨ua,un,uc,rfl⟩:=hu.form;have HU:=hd hu;have bm:Hid (Bl w6 w7):=⟨G.os,G.tape,G.output,G.size,G.block⟩;have y7:=ae G e7;have y0:=ae G x0;clear hu G))
  all_goals
   go_wp2_with fail;go_meet
   case rel=>exact⟨⟨_,_,_,rfl⟩,rfl,HU.out,bm.out⟩
 obtain⟨⟨ua,un,uc,rfl⟩,rfl,hu,aI⟩:=hcut;rename World=>w8;have HU:=hd hu;have aw:Hid (Bl w w8):=v.out.trans (aI.mono v.out.size);have al:Hid (Bx w8 w.heap.size 170 #[.slice D X E,I Y,I v2,.bool v3,I v4,I y.til,.slice ta tn tc]):=a4.out.later aI;obtain⟨o,an⟩:∃o,o=(aB s.tip f.l).2:=⟨_,rfl⟩;rw[<-an];have bq:=hd an;have bH:o<=X:=by rw[an,HZ.out];exact dg _ _
 clear hu aI a4 v a8 x0 e7 an;obtain rfl:o=X:=by rw[bq.out,HZ.out,HC.out.1]
 obtain rfl:v3=false:=by rw[HV.out.2.2,HC.out.2.1];rfl
 have au:c.retries<Y:=by rw[HV.out.1];exact HC.out.2.2.1
 have bO:(c.retries:Int)<(Y:Int):=by omega
 have bg:1<o:=by rw[HZ.out];exact HC.out.2.2.2
 have bT:((o:Int)==0)=false:=beq_false_of_ne (by omega);have bI:((o:Int)==1)=false:=beq_false_of_ne (by omega);obtain⟨d,ba⟩:∃d,d=(o+1)/2:=⟨_,rfl⟩;have bQ:0<d:=by omega
 have bR:d<o:=by omega
 have bF:Int.tdiv (o:Int) 2+Int.tmod (o:Int) 2=(d:Int):=by
  rw[Int.tdiv_eq_ediv_of_nonneg (by omega),Int.tmod_eq_emod_of_nonneg (by omega)];omega
 have bN:Int.tdiv (o:Int) 2=(o:Int)/2:=Int.tdiv_eq_ediv_of_nonneg (by omega);have bS:Int.tmod (o:Int) 2=(o:Int)%2:=Int.tmod_eq_emod_of_nonneg (by omega);have bW:(o:Int)/2+(o:Int)%2=(d:Int):=by omega
 have bX:IntKind.i64.wrap (d:Int)=(d:Int):=wrap_i64 (by omega) (by omega);have bp:=hd ba;have x1:=al.out.c 1 (I Y);have x3:=al.out.c 3 (.bool false);have e4:=ae aw.out c4;generalize c.retries=rt at *;clear ba bF;go_upto_region 25 with fail;go_cut [126] from 130 (λt wz=>t=.bool true/\Bl w8 wz)
 case first=>
  go_region_held_law (λw'=>w'.cell? ⟨nb,4,none⟩=some (I rt)/\w'.cell? ⟨w.heap.size,1,none⟩=some (I Y)) (go_keep) (fail)
  all_goals
   go_wp2_with fail;go_meet
   case rel=>exact⟨rfl,⟨rfl,rfl,rfl,b_ _,λ_ _=>rfl⟩⟩
 case rest=>
 obtain⟨rfl,aJ⟩:=hcut;rename World=>w9;have bn:Hid (Bl w w9):=bj aw.out aJ;have bt:Hid (Bx w9 w.heap.size 170 #[.slice D o E,I Y,I v2,.bool false,I v4,I y.til,.slice ta tn tc]):=al.out.later aJ;clear aJ al aw HU x1 x3 e4;have H8:Hid (aS w0 w9 nb n0 c s ⟨.slice J L K,mv,V,qv,s_ g 0 (M.length+1) T,ov,q,tl,y::M⟩):=HN.out.later bn.out
 have aA:Hid (Sl w9 165 4 (.slice D o E) (y.cl.map wOf).length ((y.cl.map wOf).flatMap cW)):=by
  have:=(H8.out.segs y D_).1.l.row;rw[HY.out.2.2.1] at this;rw[d_];exact this
 have aP:∀x∈y.cl.map wOf,bD x.2.2.2:=λx hx=>by
  obtain⟨t,ht,rfl⟩:=q_.1 hx;exact(aD.out.1.l.eds t ht).form
 have bE:(y.cl.map wOf).length=o:=by rw[d_];exact am.out.symm
 have aZ:Hid (∀W,Bl w9 W->c_ 219 #[.slice D o E,I 0,I d] W λe w'=>(∃v',e=.returned v'/\w'.ownsRow W.heap.size 165 4 v' d (((y.cl.take d).map wOf).flatMap cW))/\Bl W w'):=λW U=>by
  have:=nC (y.cl.map wOf) (.slice D o E) 0 d W (aA.out.later U) aP (k_ _) (by omega) (by omega);rw[pg] at this;exact this
 have a0:Hid (∀W,Bl w9 W->c_ 219 #[.slice D o E,I d,I o] W λe w'=>(∃v',e=.returned v'/\w'.ownsRow W.heap.size 165 4 v' (o-d) (((y.cl.drop d).map wOf).flatMap cW))/\Bl W w'):=λW U=>by
  have:=nC (y.cl.map wOf) (.slice D o E) d o W (aA.out.later U) aP (by omega) (by omega) (by omega);rw[ph am.out] at this;exact this
 have ao:(y.cl.take d).length=d:=by rw[l_,<-am.out];omega
 have ap:(y.cl.drop d).length=o-d:=by rw[G_,<-am.out]
 have HI:Hid (∀(W:World) (bA bB:Nat) (vA vB:Value),Bl w9 W->W.ownsRow bA 165 4 vA d (((y.cl.take d).map wOf).flatMap cW)->W.ownsRow bB 165 4 vB (o-d) (((y.cl.drop d).map wOf).flatMap cW)->w9.heap.size<=bA->w9.heap.size<=bB->c_ 218 #[Px nb,s_ (W.heap.size) 0 2 2] (W.alloc (.cells #[vA,I 0,I 0,.bool false,I 0,I 0,Zn,vB,I 0,I 0,.bool false,I 0,I 0,Zn] 170)) λe w'=>e=.returned (.tuple #[])/\(∃vA' vB' B,aS w0 w' nb n0 c {s with segs:=([cx ((y.cl.take d).map Prod.fst) vA' (y.cl.take d),cx ((y.cl.drop d).map Prod.fst) vB' (y.cl.drop d)]++M).map Sv.x} ⟨.slice J L K,mv,V,qv,B,ov,q,tl,[cx ((y.cl.take d).map Prod.fst) vA' (y.cl.take d),cx ((y.cl.drop d).map Prod.fst) vB' (y.cl.drop d)]++M⟩)/\ai W w' λk=>k=nb):=λW bA bB vA vB U hA hB lA lB=>by
  refine(zj (bA:=bA) (bB:=bB) (H8.out.later U) (y.cl.take d) (y.cl.drop d) vA vB (by rw[ao];exact hA) (by rw[ap];exact hB) (λt ht=>aD.out.1.l.eds t (List.mem_of_mem_take ht)) (λt ht=>aD.out.1.l.eds t (List.mem_of_mem_drop ht)) (gz hA H8.out.row lA) (gz hB H8.out.row lB) (e_ aY.out (by decide))).mono ?_;rintro e w' ⟨rfl,⟨B,h1⟩,h2⟩;rw[rT (by intro e;rw[e] at ao;simp at ao;omega) (by intro e;rw[e] at ap;simp at ap;omega)] at h1;exact⟨rfl,⟨vA,vB,B,h1⟩,h2⟩
 have x0:=bt.out.c 0 (.slice D o E);have aF:=aZ.out w9.drew ⟨rfl,rfl,rfl,b_ _,λ_ _=>rfl⟩;have aG:=a0.out w9.drew ⟨rfl,rfl,rfl,b_ _,λ_ _=>rfl⟩;have bG:¬(w.heap.size=nb):=by omega
 clear aP bE ao ap aA c7 c4;go_upto_region 31 with fail;go_cut [165] from 150 (λ_ wz=>∃vA vB B,aS w0 wz nb n0 c {s with segs:=([cx ((y.cl.take d).map Prod.fst) vA (y.cl.take d),cx ((y.cl.drop d).map Prod.fst) vB (y.cl.drop d)]++M).map Sv.x} ⟨.slice J L K,mv,V,qv,B,ov,q,tl,[cx ((y.cl.take d).map Prod.fst) vA (y.cl.take d),cx ((y.cl.drop d).map Prod.fst) vB (y.cl.drop d)]++M⟩)
 case first=>
  go_region_held_law (λw'=>w'.cell? ⟨w.heap.size,0,none⟩=some (.slice D o E)) (go_keep) (first
   |(go_at_call 219;go_fit aF;rintro e wa ⟨⟨va,rfl,aL⟩,N⟩;obtain⟨aa,ka,rfl⟩:=ag aL;have ya:=ae N x0;have a1:=hd aL;have ax:Hid (Bl w9 wa):=⟨N.os,N.tape,N.output,N.size,N.block⟩;have a7:=a0.out wa ax.out;clear aL N aF aG)
   |(go_at_call 219;go_fit aG;rintro e wb ⟨⟨vb,rfl,aM⟩,O⟩;obtain⟨ab,kb,rfl⟩:=ag aM;have yb:=ae O x0;have a2:=hd aM;have ay:Hid (Bl w9 wb):=⟨O.os,O.tape,O.output,O.size,O.block⟩;have a6:=aZ.out wb ay.out;clear aM O aF aG)
   |(go_at_call 219;go_fit a7;rintro e wc ⟨⟨vc,rfl,P⟩,A⟩;obtain⟨ac,kc,rfl⟩:=ag P;have yc:=ae A ya;have az:=HI.out wc w9.heap.size wa.heap.size (.slice aa d ka) (.slice ac (o-d) kc) (bj ax.out A) (aN a1.out λb hb=>A.block b (f_ a1.out b hb).2) P (b_ _) ax.out.size;clear P A a7)
   |(go_at_call 219;go_fit a6;rintro e wc ⟨⟨vc,rfl,P⟩,A⟩;obtain⟨ac,kc,rfl⟩:=ag P;have yc:=ae A yb;have az:=HI.out wc wb.heap.size w9.heap.size (.slice ac d kc) (.slice ab (o-d) kb) (bj ay.out A) P (aN a2.out λb hb=>A.block b (f_ a2.out b hb).2) ay.out.size (b_ _);clear P A a6)
   |(go_at_call 218;go_fit az;rintro e wd ⟨rfl,bb,bc⟩;have yd:=cG bc bG yc;have bs:=hd bb;clear bb bc az))
  all_goals
   go_wp2_with fail;go_meet
   case rel=>exact bs.out
 rename World=>w10;obtain⟨vA,vB,hcut⟩:=hcut;obtain⟨n,aj⟩:∃n,n=[cx ((y.cl.take d).map Prod.fst) vA (y.cl.take d),cx ((y.cl.drop d).map Prod.fst) vB (y.cl.drop d)]++M:=⟨_,rfl⟩;rw[<-aj] at hcut;obtain⟨ak,av⟩:∃ak,ak=ov:=⟨_,rfl⟩;obtain⟨so,aQ⟩:∃so,so=s.outs:=⟨_,rfl⟩;rw[<-av] at hcut
 have bu:Hid (n=[cx ((y.cl.take d).map Prod.fst) vA (y.cl.take d),cx ((y.cl.drop d).map Prod.fst) vB (y.cl.drop d)]++M/\n.length<=64):=⟨aj,by
  have h1:(y::M).map Sv.x=s.segs:=HN.out.ss;have h2:=aY.out;rw[<-h1,d_,List.length_cons] at h2;rw[aj,a_,List.length_cons,List.length_cons,List.length_nil]
  omega⟩
 have hcut:∃B,aS w0 w10 nb n0 c {s with outs:=so,segs:=n.map Sv.x} ⟨.slice J L K,mv,V,qv,B,ak,q,tl,n⟩:=by rw[aQ];exact hcut
 have bo:Hid (({s with outs:=so,segs:=(n.map Sv.renew).map Sv.x}:Ts)=s.blame f m):=wU aQ aj HY.out.2.1 HY.out.2.2.2.2.2 (by rw[<-HZ.out];exact bg) (by rw[<-HZ.out];exact bp.out);clear av aQ aj;have bz:=hcut;obtain⟨B,aE⟩:=bz
 obtain⟨sa,sc,rfl⟩:∃sa sc,B=.slice sa n.length sc:=by
  obtain⟨a,b,e⟩:=ag aE.srow;exact⟨a,b,e⟩
 have bl:=hd aE;have bY:n.length<=64:=bu.out.2;clear aE hcut;go_wp2_with fail;go_loopw [10] (λiv wr=>∃i:Nat,i<=n.length/\iv=I i/\Hid (aS w0 wr nb n0 c {s with outs:=so,segs:=(aW Sv.renew n i).map Sv.x} ⟨.slice J L K,mv,V,qv,.slice sa n.length sc,ak,q,tl,aW Sv.renew n i⟩)) (λi _=>n.length-(intOf i).toNat)
 case atStart=>exact⟨0,k_ _,rfl,by rw[iT];exact bl⟩
 obtain⟨i,bP,rfl,r⟩:=hrel;have bL:=r.out.box.c 11 (.slice sa n.length sc);by_cases hlt:i<n.length
 ·have ad:i<(aW Sv.renew n i).length:=by rw[bf];exact hlt
  have ah:wr.ownsRow w0.heap.size 170 7 (.slice sa n.length sc) (aW Sv.renew n i).length ((aW Sv.renew n i).flatMap cSg):=r.out.srow
  obtain⟨C,hv⟩:∃C,sa=some ⟨C,0,none⟩:=by
   rcases ah.2 with ⟨_,h0⟩|⟨C,c5,bx,e,_⟩
   ·omega
   injection e with e1 e2 e3;exact⟨C,e1⟩
  subst hv
  have p:wr.ownsRow w0.heap.size 170 7 (s_ C 0 (aW Sv.renew n i).length sc) (aW Sv.renew n i).length ((aW Sv.renew n i).flatMap cSg):=by
   have:=ah;rw[bf] at this ⊢;exact this
  have aH:=(r.out.segs _ (i_ ad));obtain⟨a5,k5,R⟩:=aH.1.l.row.form;rw[bV _ _ hlt] at aH R
  have e0:wr.cell? ⟨C,i*7,none⟩=some (.slice a5 n[i].cl.length k5):=by
   have:=(Sl.of_row p).cell (j:=i*7) (u:=.slice a5 n[i].cl.length k5) (by
    have:=aq cSg 7 (λ_=>rfl) (aW Sv.renew n i) i 0 ad (by decide);rw[bV _ _ hlt,Nat.add_zero] at this
    rw[this,<-R];rfl)
   rwa [O_] at this
  have H:∀j u,j<7->(cSg n[i])[j]? =some u->wr.cell? ⟨C,i*7+j,none⟩=some u:=λj u hj hu=>by
   have:=(Sl.of_row p).cell (j:=i*7+j) (u:=u) (by
    rw[aq cSg 7 (λ_=>rfl) (aW Sv.renew n i) i j ad hj,bV _ _ hlt];exact hu)
   rwa [O_] at this
  have e1:=H 1 _ (by decide) rfl;have e2:=H 2 _ (by decide) rfl;have e3:=H 3 _ (by decide) rfl;have e4:=H 4 _ (by decide) rfl;have e5:=H 5 _ (by decide) rfl;have e6:=H 6 _ (by decide) rfl;have fr:=λj=>(Sl.of_row p).fr j;have f0:=fr (i*7);have f1:=fr (i*7+1);have f2:=fr (i*7+2);have f3:=fr (i*7+3);have f4:=fr (i*7+4);have f5:=fr (i*7+5);have f6:=fr (i*7+6);have a3:=hd p;have br:=hd R;generalize n[i].cl.length=n5 at *;obtain⟨W,U⟩:∃W,W=(((((((wr.setCell ⟨C,i*7,none⟩ (.slice a5 n5 k5)).setCell ⟨C,i*7+1,none⟩ (I 0)).setCell ⟨C,i*7+2,none⟩ (I 0)).setCell ⟨C,i*7+3,none⟩ (.bool false)).setCell ⟨C,i*7+4,none⟩ (I 0)).setCell ⟨C,i*7+5,none⟩ (I 0)).setCell ⟨C,i*7+6,none⟩ (Zn)):=⟨_,rfl⟩
  have Q:W.ownsRow w0.heap.size 170 7 (s_ C 0 n.length sc) (aW Sv.renew n (i+1)).length ((aW Sv.renew n (i+1)).flatMap cSg)/\wr.grownBy W (some C):=by
   have:=vE a3.out ad n[i].renew
   have e:cSg n[i].renew=[.slice a5 n5 k5,I 0,I 0,.bool false,I 0,I 0,Zn]:=by
    show [n[i].lv,I 0,I 0,.bool false,I 0,I 0,Zn]=_;rw[br.out]
   rw[dQ Sv.renew n hlt,e,bf] at this;rw[bf,U];exact this
  have aC:Hid (aS w0 W nb n0 c {s with outs:=so,segs:=(aW Sv.renew n (i+1)).map Sv.x} ⟨.slice J L K,mv,V,qv,s_ C 0 n.length sc,ak,q,tl,aW Sv.renew n (i+1)⟩):=by
   have bC:some nb≠some C:=λe=>cf r.out.srow r.out.box (by decide) (by rw[e];rfl);refine r.out.setSegs (zs':=aW Sv.renew n (i+1)) (ai.of_grown Q.2 λk hk=>.inr hk) (r.out.box.grown Q.2 bC) Q.1 λt ht=>?_;rw[<-dQ Sv.renew n hlt] at ht;rcases List.mem_or_eq_of_mem_set ht with ht|rfl
   ·exact r.out.segs t ht
   have:=r.out.segs _ (i_ ad);rw[bV _ _ hlt] at this;exact⟨Sv.renew_is this.1,this.2⟩
  have HW:=hd U;clear Q U;clear ah p aH R H fr;go_wp2_with fail;go_region
  all_goals
   go_wp2_with fail;rw[<-HW.out];exact⟨⟨i+1,hlt,by go_num,aC.out.later ⟨rfl,rfl,rfl,b_ _,λ_ _=>rfl⟩⟩,by simp[intOf];omega⟩
 obtain rfl:i=n.length:=by omega
 have aX:Hid (bM w0 wr nb n0 c (s.blame f m)):=by
  have h1:=r.out;rw[jN Sv.renew n (b_ _)] at h1;rw[<-bo.out];exact⟨_,h1⟩
 go_wp2_with fail;go_ret;exact⟨rfl,aX.out⟩
end
end Go.Proofs.YtgamgomepdfgdaaGreat
