import Derived.Test.YtgamgomepdfgdaaGreatAM12
set_option maxRecDepth 100000
set_option maxHeartbeats 8000000
namespace Go.Proofs.YtgamgomepdfgdaaGreat
open Go.RowKit Go.Proofs.Tryz
section
variable{g:ByteArray->ByteArray}{c:Cfg}{b g5 i n0 nb sc:Nat}{z:Nz}{s:Ts}{α:Type}{tv u:Value}{w w' w0 wr:World}
theorem CG (c:Cfg)(tip mv idv qv sv ov:Value)(a b t b':Nat):(dS c tip mv idv qv sv ov a b t).setIfInBounds 14 (I b')=dS c tip mv idv qv sv ov a b' t:=rfl
def Sv.begin (y:Sv)(num til:Nat)(g:ByteArray->ByteArray)(tv:Value):Sv:=⟨{y.x with job:=some ⟨num,til,g⟩},y.lv,til,tv,y.cl⟩
theorem t8 (c:Cfg)(now r:Nat)(g:ByteArray->ByteArray)(b:Nat):bL c now r [] g b=([],b):=by cases r<;>rfl
structure fg (w0 wr:World)(nb n0:Nat)(c:Cfg)(s:Ts)(z:Nz)(i:Nat)(tv:Value)(P:List Sv)(g:ByteArray->ByteArray)(b:Nat):Prop where
 len:P.length=i
 now:aS w0 wr nb n0 c {s with segs:=(P++z.zs.drop i).map Sv.x,begun:=b} {z with zs:=P++z.zs.drop i}
 tree:cu wr (n0+4*s.outs.length+4*az (s.segs.take i)) tv g
 eq:bL c s.now c.window s.segs s.tip s.begun=(P.map Sv.x++(bL c s.now (c.window-i) (s.segs.drop i) g b).1,(bL c s.now (c.window-i) (s.segs.drop i) g b).2)
 few:b<=s.begun+i
theorem cU {l:List Sm}(h:i<l.length):az (l.take (i+1))=az (l.take i)+l[i].l.length:=by
 rw[g_ h,cV];simp[az]
theorem gP (l:List Sm)(i:Nat):az (l.take i)<=az l:=by
 have:=cV (l.take i) (l.drop i);rw[X_] at this;omega
theorem nF:∀(vs a b:List Value) (j:Nat),j+vs.length<=a.length->fD (a++b) j vs=fD a j vs++b
 |[],_,_,_,_=>rfl
 |v::vs,a,b,j,h=>by
  rw[List.length_cons] at h
  rw[fD,fD,List.set_append_left _ _ (by omega)]
  exact nF vs (a.set j v) b (j+1) (by rw[List.length_set];omega)
theorem lg (enc:α->List Value)(k:Nat)(hk:∀x,(enc x).length=k)(j:Nat)(vs:List Value)(hj:j+vs.length<=k):∀(l:List α) (i:Nat) (h:i<l.length) (y:α),enc y=fD (enc l[i]) j vs->(l.set i y).flatMap enc=fD (l.flatMap enc) (i*k+j) vs
 |x::l,0,_,y,hy=>by
  rw[List.set_cons_zero,F_,F_,Nat.zero_mul,O_,nF _ _ _ _ (by rw[hk];exact hj),hy];rfl
 |x::l,i+1,h,y,hy=>by
  rw[List.set_cons_succ,F_,F_,lg enc k hk j vs hj l i (by simpa using h) y hy,show (i+1)*k+j=(enc x).length+(i*k+j) by rw[hk,Nat.add_mul];omega,gn]
theorem fg.stop {P:List Sv}(h:fg w0 wr nb n0 c s z i tv P g b)(hz:z.zs.map Sv.x=s.segs)(hi:i<s.segs.length)(hw:i<c.window)(hs:(aB g s.segs[i].l).2<s.segs[i].l.length\/c.retries<s.segs[i].fails):bM w0 wr nb n0 c (s.begin c):=by
 have e:s.begin c={s with segs:=(P++z.zs.drop i).map Sv.x,begun:=b}:=by
  unfold Ts.begin;rw[h.eq,show c.window-i=(c.window-(i+1))+1 by omega,M_ hi,bL,if_pos hs,<-M_ hi,w_,List.map_drop,hz]
 rw[e];exact⟨_,h.now⟩
theorem fg.fin {P:List Sv}(h:fg w0 wr nb n0 c s z i tv P g b)(hz:z.zs.map Sv.x=s.segs)(he:bL c s.now (c.window-i) (s.segs.drop i) g b=(s.segs.drop i,b)):bM w0 wr nb n0 c (s.begin c):=by
 have e:s.begin c={s with segs:=(P++z.zs.drop i).map Sv.x,begun:=b}:=by
  unfold Ts.begin;rw[h.eq,he,w_,List.map_drop,hz]
 rw[e];exact⟨_,h.now⟩
theorem fg.later {P:List Sv}(h:fg w0 w nb n0 c s z i tv P g b)(hb:Bl w w'):fg w0 w' nb n0 c s z i tv P g b:=⟨h.len,h.now.later hb,h.tree.later hb,h.eq,h.few⟩
theorem fg.skip {P:List Sv}(h:fg w0 w nb n0 c s z i tv P g b)(hz:z.zs.map Sv.x=s.segs)(hi:i<z.zs.length)(hi':i<s.segs.length)(hw:i<c.window)(hno:¬((aB g s.segs[i].l).2<s.segs[i].l.length\/c.retries<s.segs[i].fails))(hsk:¬(s.segs[i].by_=0/\s.segs[i].job.isNone=true))(hu:cu w (n0+4*s.outs.length+4*az (s.segs.take i)+4*s.segs[i].l.length) u (aB g s.segs[i].l).1):
 fg w0 w nb n0 c s z (i+1) u (P++[z.zs[i]]) (aB g s.segs[i].l).1 b:=by
 have hd:=M_ hi;have a:P++z.zs.drop i=(P++[z.zs[i]])++z.zs.drop (i+1):=by rw[hd,A_];rfl
 have d:(z.zs[i]).x=s.segs[i]:=by simp only[<-hz];simp
 refine⟨by rw[a_,h.len];rfl,by rw[<-a];exact h.now,by rw[cU hi',Nat.mul_add,<-J_];exact hu,?_,by have:=h.few;omega⟩;rw[h.eq,show c.window-i=(c.window-(i+1))+1 by omega,M_ hi',bL,if_neg hno,if_neg hsk,w_,A_,<-d];rfl
theorem fg.beg {P:List Sv}(h:fg w0 w nb n0 c s z i tv P g b)(hz:z.zs.map Sv.x=s.segs)(hi:i<z.zs.length)(hi':i<s.segs.length)(hw:i<c.window)(hno:¬((aB g s.segs[i].l).2<s.segs[i].l.length\/c.retries<s.segs[i].fails))(hbe:s.segs[i].by_=0/\s.segs[i].job.isNone=true)(hu:cu w (n0+4*s.outs.length+4*az (s.segs.take i)+4*s.segs[i].l.length) u (aB g s.segs[i].l).1)(htop:n0+4*s.outs.length+4*az (s.segs.take i)+4*s.segs[i].l.length<=s.top n0)(hsv:z.sv=s_ g5 0 z.zs.length sc){W:World}(hW:W=rV (w.setCell ⟨nb,14,none⟩ (I ((b+1:Nat):Int))) g5 (i*7+4) [I ((b+1:Nat):Int),I ((s.now+c.deadline:Nat):Int),u]):
 fg w0 W nb n0 c s z (i+1) u (P++[z.zs[i].begin (b+1) (s.now+c.deadline) (aB g s.segs[i].l).1 u]) (aB g s.segs[i].l).1 (b+1):=by
 have hd:=M_ hi;have K:(z.zs[i]).x=s.segs[i]:=by simp only[<-hz];simp
 have f:=h.len;have m:(P++z.zs.drop i).length=z.zs.length:=by rw[a_,G_,f];omega
 have r:i<(P++z.zs.drop i).length:=by rw[m];exact hi
 have v:(P++z.zs.drop i)[i]=z.zs[i]:=by
  rw[List.getElem_append_right (by omega)];simp[f]
 have d:(P++z.zs.drop i).set i (z.zs[i].begin (b+1) (s.now+c.deadline) (aB g s.segs[i].l).1 u)=(P++[z.zs[i].begin (b+1) (s.now+c.deadline) (aB g s.segs[i].l).1 u])++z.zs.drop (i+1):=by
  rw[List.set_append_right _ _ (by omega),f,Nat.sub_self,hd,List.set_cons_zero,A_];rfl
 have a:w.ownsRow w0.heap.size 170 7 (s_ g5 0 z.zs.length sc) z.zs.length ((P++z.zs.drop i).flatMap cSg):=by
  have B:=h.now.srow;rwa [hsv,m] at B
 have C:Bx (w.setCell ⟨nb,14,none⟩ (I ((b+1:Nat):Int))) nb 163 (dS c z.tip z.mv z.idv z.qv z.sv z.ov s.acked (b+1) s.now):=by
  have:=h.now.box.set 14 (I ((b+1:Nat):Int));rwa [CG] at this
 have F:=t_ a (ah w nb 14 (I ((b+1:Nat):Int))) (d7 a h.now.box (by decide));obtain⟨p,n⟩:=kz [I ((b+1:Nat):Int),I ((s.now+c.deadline:Nat):Int),u] (i*7+4) F;rw[<-hW] at p n;rw[<-lg cSg 7 (λ_=>rfl) 4 [I ((b+1:Nat):Int),I ((s.now+c.deadline:Nat):Int),u] (by simp) (P++z.zs.drop i) i r (z.zs[i].begin (b+1) (s.now+c.deadline) (aB g s.segs[i].l).1 u) (by rw[v];rfl),d] at p;have D:some nb≠some g5:=λe=>cf a h.now.box (by decide) (by rw[e];rfl);have E:((P++[z.zs[i].begin (b+1) (s.now+c.deadline) (aB g s.segs[i].l).1 u])++z.zs.drop (i+1)).length=z.zs.length:=by rw[<-d,List.length_set,m]
 have G:ai w W λk=>k=nb\/z.sv.ownBlock=some k:=((ai.refl w _).set (.inl (.inl rfl))).trans (ai.of_grown (S:=λk=>k=nb\/z.sv.ownBlock=some k) n λk o=>.inr (by rw[hsv];exact o)) λk o=>.inl o
 have H:aM w W [163,170]:=aM.of_only G λk o=>by
  rcases o with rfl|o
  ·exact⟨_,by simp,h.now.box.ty⟩
  exact⟨170,by simp,aV h.now.srow o⟩
 have J:=h.now.setSegs (zs':=(P++[z.zs[i].begin (b+1) (s.now+c.deadline) (aB g s.segs[i].l).1 u])++z.zs.drop (i+1)) (b:=b+1) (t:=s.now) G (C.grown n D) (by rw[E];show W.ownsRow _ _ _ z.sv _ _;rw[hsv];exact p) (λy A=>by
  rw[<-d] at A;rcases List.mem_or_eq_of_mem_set A with A|rfl
  ·exact h.now.segs y A
  have B:=h.now.segs _ (i_ r);have q:dC w0 w (s.top n0) z.zs[i]/\∀b,z.zs[i].lv.ownBlock=some b->z.qv.ownBlock≠some b:=by rw[<-v];exact B
  refine⟨⟨q.1.l,hu.form,λj hj=>?_⟩,q.2⟩;cases hj
  exact⟨rfl,hu.kept (λ_ _=>rfl) htop⟩)
 refine⟨by rw[a_,f];rfl,J,?_,?_,by have:=h.few;omega⟩
 ·rw[cU hi',Nat.mul_add,<-J_];exact hu.keptT H (by decide) (b_ _)
 rw[h.eq,show c.window-i=(c.window-(i+1))+1 by omega,M_ hi',bL,if_neg hno,if_pos hbe,w_,A_]
 have e:(z.zs[i].begin (b+1) (s.now+c.deadline) (aB g s.segs[i].l).1 u).x={s.segs[i] with job:=some ⟨b+1,s.now+c.deadline,(aB g s.segs[i].l).1⟩}:=by
  show ({z.zs[i].x with job:=some ⟨b+1,s.now+c.deadline,(aB g s.segs[i].l).1⟩}:Sm)=_;rw[K]
 rw[C_,List.map_nil,e];rfl
theorem CF (h:aS w0 w nb n0 c s z)(hI:s.Inv c)(hc:c.Ok)(hn:(n0+4*s.ids.length+136)*32<=140737488355328)(hbg:s.begun<1048576000)(hnw:s.now<1048576000):
 c_ 179 #[Px nb] w λe w'=>e=.returned (.tuple #[])/\bM w0 w' nb n0 c (s.begin c):=by
 obtain⟨bi,mv,C,qv,sv,ov,q,tl,a⟩:=z;have ak:a.map Sv.x=s.segs:=h.ss;have ar:a.length=s.segs.length:=by rw[<-ak,d_]
 have bg:a.length<=8:=by rw[ar];exact cY hI
 obtain⟨sa,sc,rfl⟩:∃sa sc,sv=.slice sa a.length sc:=ag h.srow;obtain⟨n,p,o,rfl⟩:=h.tip.form;have aZ:=hc.2.2.2.1.2;have hd:=hc.2.2.2.2.2.1.2
 have HN:Hid (fg w0 w nb n0 c s ⟨.slice n p o,mv,C,qv,.slice sa a.length sc,ov,q,tl,a⟩ 0 (.slice n p o) [] s.tip s.begun):=
  ⟨rfl,{h with ss:=by simp},by simpa[az] using h.tip,by simp,b_ _⟩
 have c7:=h.box.c 7 (.slice n p o);have HI:Hid (s.Inv c):=hI;have E:Hid (a.map Sv.x=s.segs):=ak;have aw:Hid (a.length=s.segs.length):=ar;have aQ:Hid ((n0+4*s.ids.length+136)*32<=140737488355328):=hn;have HH:Hid (aS w0 w nb n0 c s ⟨.slice n p o,mv,C,qv,.slice sa a.length sc,ov,q,tl,a⟩):=h;obtain⟨V,aN⟩:∃V,V=c.window:=⟨_,rfl⟩;obtain⟨rt,aL⟩:∃rt,rt=c.retries:=⟨_,rfl⟩;obtain⟨X,aE⟩:∃X,X=c.deadline:=⟨_,rfl⟩;have S:Hid (V=c.window/\rt=c.retries/\X=c.deadline):=⟨aN,aL,aE⟩;have a2:V<=4:=by omega
 have aO:X<=100:=by omega
 clear ak ar hI hn h aZ hd aN aL aE;go_enter func179,ntmps179;go_wp2_with fail;go_loopw [2,3,4,5] (λtv iv _ _ wr=>∃i:Nat,i<=a.length/\i<=V/\iv=I i/\bD tv/\Hid (∃P g b,fg w0 wr nb n0 c s ⟨.slice n p o,mv,C,qv,.slice sa a.length sc,ov,q,tl,a⟩ i tv P g b)) (λ_ i _ _ _=>a.length-(intOf i).toNat)
 case atStart=>exact⟨0,k_ _,k_ _,rfl,⟨_,_,_,rfl⟩,_,_,_,HN.out⟩
 obtain⟨i,bd,bc,rfl,⟨ta,tn,tc,rfl⟩,ay⟩:=hrel;obtain⟨P,g,b,hB⟩:=ay.out;have af:=hB.now.box.c 11 (.slice sa a.length sc);have b3:wr.cell? ⟨nb,3,none⟩=some (I V):=by rw[S.out.1];exact hB.now.box.cell (i:=3) rfl
 have ab:=aP af;have R:=hd hB;clear ay hB;by_cases hlt:i<a.length
 ·by_cases hlw:i<V
  ·have M:i<s.segs.length:=by rw[<-aw.out];exact hlt
   have aH:(i:Int)<(V:Int):=by omega
   have aa:(i:Int)<(a.length:Int):=by omega
   have m:a[i].x=s.segs[i]:=by simp only[<-E.out];simp
   have B:=R.out.len;have G:(P++a.drop i).length=a.length:=by rw[a_,G_,B];omega
   have ah:i<(P++a.drop i).length:=by rw[G];exact hlt
   have J:(P++a.drop i)[i]=a[i]:=by
    rw[List.getElem_append_right (by omega)];simp[B]
   have d:wr.ownsRow w0.heap.size 170 7 (.slice sa a.length sc) (P++a.drop i).length ((P++a.drop i).flatMap cSg):=R.out.now.srow
   obtain⟨g5,hv⟩:∃g5,sa=some ⟨g5,0,none⟩:=by
    rcases d.2 with ⟨_,h0⟩|⟨g5,c5,a6,e,_⟩
    ·omega
    injection e with e1 e2 e3;exact⟨g5,e1⟩
   subst hv;obtain⟨t,aA⟩:=R.out.now.segs _ (i_ ah);rw[J] at t aA;obtain⟨la,lc,Z⟩:=t.l.row.form;obtain⟨bj,bl,bk,aY⟩:=t.sl
   have T:∀j u,j<7->(cSg a[i])[j]? =some u->wr.cell? ⟨g5,i*7+j,none⟩=some u:=λj u hj hu=>by
    have N:=d;rw[G] at N
    have:=(Sl.of_row N).cell (j:=i*7+j) (u:=u) (by
     rw[aq cSg 7 (λ_=>rfl) (P++a.drop i) i j ah hj,J];exact hu)
    rwa [O_] at this
   have hf:=HI.out.sm s.segs[i] (i_ M);have al:=gP s.segs (i+1);rw[cU M] at al;have aM:=HI.out.tr;have L:a[i].cl.length=s.segs[i].l.length:=by rw[t.l.len,m]
   have aD:=HI.out.cnt;have hM:=jM a[i].cl s.segs[i].l (.slice ta tn tc) (.slice la a[i].cl.length lc) g (n0+4*s.outs.length+4*az (s.segs.take i)) wr R.out.tree (by rw[<-m];exact t.l.fst) (by rw[<-Z];exact t.l.row) (λx hx=>(t.l.eds x hx).later R.out.now.below) (λx hx=>(hf.eds x hx).2) (e_ (u_ 32 (show _<=n0+4*s.ids.length+136 by omega)) aQ.out) (by omega);obtain⟨f,ai⟩:∃f,f=s.segs[i]:=⟨_,rfl⟩;rw[<-ai] at hM m L hf al;obtain⟨Q,aJ⟩:∃Q,Q=a[i].cl.length:=⟨_,rfl⟩;rw[<-aJ] at hM Z L;have d0:wr.cell? ⟨g5,i*7,none⟩=some (.slice la Q lc):=T 0 _ (by decide) (by rw[<-Z];rfl);have d1:=T 1 (I f.fails) (by decide) (by rw[<-m];rfl);have d2:=T 2 (I f.by_) (by decide) (by rw[<-m];rfl);have d3:=T 3 (.bool (f.by_ !=0)) (by decide) (by rw[<-m];rfl);have d4:=T 4 (I (cr f.job)) (by decide) (by rw[<-m];rfl);have aF:=aP d0;have b4:wr.cell? ⟨nb,4,none⟩=some (I rt):=by rw[S.out.2.1];exact R.out.now.box.cell (i:=4) rfl
   obtain⟨v1,am⟩:∃v1,v1=f.fails:=⟨_,rfl⟩;obtain⟨v3,an⟩:∃v3,v3=(f.by_ !=0):=⟨_,rfl⟩;obtain⟨v4,ao⟩:∃v4,v4=cr f.job:=⟨_,rfl⟩;rw[<-am] at d1;rw[<-an] at d3;rw[<-ao] at d4;obtain⟨U,Y⟩:∃U,U=(aB g f.l).2:=⟨_,rfl⟩;rw[<-Y] at hM;have r:Hid (v1=f.fails/\v3=(f.by_ !=0)/\v4=cr f.job/\U=(aB g f.l).2/\f=s.segs[i]/\Q=f.l.length/\a[i].x=f):=⟨am,an,ao,Y,ai,L,m⟩;have HF:=hd hf;have aR:Hid (az (s.segs.take i)+f.l.length<=8):=by show _<=_;omega
   have a1:U<=Q:=by rw[Y,L];exact dg _ _
   clear t aA Z aY T d m L hf al aM aD ai aJ am an ao Y G J B;go_wp2_with fail;go_fit hM;rintro e w1 ⟨⟨u,rfl,hu⟩,k⟩;obtain⟨ua,un,uc,rfl⟩:=hu.form;have HU:=hd hu;have ac:Hid (fg w0 w1 nb n0 c s ⟨.slice n p o,mv,C,qv,s_ g5 0 a.length sc,ov,q,tl,a⟩ i (.slice ta tn tc) P g b):=R.out.later k;have e0:=ae k d0;have e1:=ae k d1;have e3:=ae k d3;have e4:=ae k d4;have a4:=ae k b4;have ax:=ae k af;have aG:=h_ aF k.size;have aK:=h_ ab k.size;clear d0 d1 d2 d3 d4 b4 af b3 k hu hM R aF ab
   have A:Hid (U<Q\/rt<v1->bM w0 w1 nb n0 c (s.begin c)):=λhor=>ac.out.stop E.out M (by rw[<-S.out.1];exact hlw) (by
    rw[<-r.out.2.2.2.2.1,<-S.out.2.1,<-r.out.2.2.2.1,<-r.out.2.2.2.2.2.1,<-r.out.1]
    exact hor)
   by_cases hk:U<Q
   ·have aj:(U:Int)<(Q:Int):=by omega
    have hd:decide ((U:Int)<(Q:Int))=true:=decide_eq_true aj;go_upto_region 5 with fail;go_quiet (fail);go_wp2_with fail;refine bodyPost_ret (v:=.tuple #[]) (results_none (by kernel_rfl) _ _ _) rfl ⟨rfl,(A.out (.inl hk)).later ⟨rfl,rfl,rfl,b_ _,λ_ _=>rfl⟩⟩
   have aj:¬((U:Int)<(Q:Int)):=by omega
   have hd:decide ((U:Int)<(Q:Int))=false:=decide_eq_false aj;by_cases hr:rt<v1
   ·have aX:(rt:Int)<(v1:Int):=by omega
    go_upto_region 5 with fail;go_quiet (fail);go_wp2_with fail;refine bodyPost_ret (v:=.tuple #[]) (results_none (by kernel_rfl) _ _ _) rfl ⟨rfl,(A.out (.inr hr)).later ⟨rfl,rfl,rfl,b_ _,λ_ _=>rfl⟩⟩
   have aX:¬((rt:Int)<(v1:Int)):=by omega
   have au:Hid (¬((aB g s.segs[i].l).2<s.segs[i].l.length\/c.retries<s.segs[i].fails)):=by
    show ¬_;rw[<-r.out.2.2.2.2.1,<-S.out.2.1,<-r.out.2.2.2.1,<-r.out.2.2.2.2.2.1,<-r.out.1];omega
   clear A;go_upto_region 5 with fail;go_quiet (fail);go_upto_region 7 with fail;generalize ap:World.drewN w1 _=w2;have H:Bl w1 w2:=ap▸⟨rfl,rfl,rfl,b_ _,λ_ _=>rfl⟩;have D:Hid (fg w0 w2 nb n0 c s ⟨.slice n p o,mv,C,qv,s_ g5 0 a.length sc,ov,q,tl,a⟩ i (.slice ta tn tc) P g b):=ac.out.later H;have av:Hid (cu w2 (n0+4*s.outs.length+4*az (s.segs.take i)+4*f.l.length) (.slice ua un uc) (aB g f.l).1):=HU.out.later H;have k3:=ae H e3;have k4:=ae H e4;have bh:=ae H ax;have y:Hid (¬(f.by_=0/\f.job.isNone=true)->∃P' g' b',fg w0 w2 nb n0 c s ⟨.slice n p o,mv,C,qv,s_ g5 0 a.length sc,ov,q,tl,a⟩ (i+1) (.slice ua un uc) P' g' b'):=λO=>⟨_,_,_,D.out.skip E.out hlt M (by rw[<-S.out.1];exact hlw) au.out (by rw[<-r.out.2.2.2.2.1];exact O) (by rw[<-r.out.2.2.2.2.1];exact av.out)⟩;clear ap H e0 e1 e3 e4 a4 ax ac HU aG aK;cases v3 with
   |true=>
    have O:Hid (¬(f.by_=0/\f.job.isNone=true)):=λh=>by
     have:=r.out.2.1;rw[h.1] at this;cases this
    go_wp2_with fail;exact⟨⟨i+1,by omega,by omega,by go_num,⟨_,_,_,rfl⟩,y.out O.out⟩,by simp[intOf];omega⟩
   |false=>
    by_cases h4:v4=0
    ·subst h4;have aC:f.by_=0:=by simpa using r.out.2.1.symm
     have aI:f.job.isNone=true:=by
      cases hj:f.job with
      |none=>rfl
      |some j=>
       have h1:=r.out.2.2.1;have h2:=(HF.out.job j hj).2.2.1;rw[hj] at h1;have h3:0=j.num:=h1;omega
     have F:=D.out.now.box;have a3:=F.c 14 (I b);have a5:=F.c 15 (I s.now);have b5:w2.cell? ⟨nb,5,none⟩=some (I X):=by rw[S.out.2.2];exact F.cell (i:=5) rfl
     have a7:=F.fr 14;have B:=D.out.len;have G:(P++a.drop i).length=a.length:=by rw[a_,G_,B];omega
     have d:w2.ownsRow w0.heap.size 170 7 (s_ g5 0 a.length sc) a.length ((P++a.drop i).flatMap cSg):=by
      have h1:w2.ownsRow w0.heap.size 170 7 (s_ g5 0 a.length sc) (P++a.drop i).length ((P++a.drop i).flatMap cSg):=D.out.now.srow;rwa [G] at h1
     have J:(P++a.drop i)[i]=a[i]:=by
      rw[List.getElem_append_right (by omega)];simp[B]
     have T:∀j u,j<7->(cSg a[i])[j]? =some u->w2.cell? ⟨g5,i*7+j,none⟩=some u:=λj u hj hu=>by
      have:=(Sl.of_row d).cell (j:=i*7+j) (u:=u) (by
       rw[aq cSg 7 (λ_=>rfl) (P++a.drop i) i j ah hj,J];exact hu)
      rwa [O_] at this
     have k5:=T 5 _ (by decide) rfl;have k6:=T 6 _ (by decide) rfl;have a8:=(Sl.of_row d).fr (i*7+4);have a9:=(Sl.of_row d).fr (i*7+5);have ba:=(Sl.of_row d).fr (i*7+6);have aW:g5≠nb:=λe=>cf d F (by decide) (by rw[e];rfl);have a0:nb≠g5:=aW.symm;have aV:=D.out.few;have bf:IntKind.i64.wrap ((b:Int)+1)=(b:Int)+1:=wrap_i64 (by omega) (by omega);have ap:IntKind.i64.wrap ((s.now:Int)+(X:Int))=(s.now:Int)+(X:Int):=wrap_i64 (by omega) (by omega);obtain⟨W,hW⟩:∃W,W=(((w2.setCell ⟨nb,14,none⟩ (I ((b:Int)+1))).setCell ⟨g5,i*7+4,none⟩ (I ((b:Int)+1))).setCell ⟨g5,i*7+5,none⟩ (I ((s.now:Int)+(X:Int)))).setCell ⟨g5,i*7+6,none⟩ (.slice ua un uc):=⟨_,rfl⟩
     have ad:Hid (∃P' g' b',fg w0 W nb n0 c s ⟨.slice n p o,mv,C,qv,s_ g5 0 a.length sc,ov,q,tl,a⟩ (i+1) (.slice ua un uc) P' g' b'):=
      ⟨_,_,_,D.out.beg (sc:=sc) (g5:=g5) E.out hlt M (by rw[<-S.out.1];exact hlw) au.out (by rw[<-r.out.2.2.2.2.1];exact⟨aC,aI⟩) (by rw[<-r.out.2.2.2.2.1];exact av.out) (by
       rw[<-r.out.2.2.2.2.1];have h1:=aR.out;have h2:=HI.out.cnt;unfold Ts.top
       omega) rfl (by rw[hW,S.out.2.2];rfl)⟩
     have aT:Hid (W=(((w2.setCell ⟨nb,14,none⟩ (I ((b:Int)+1))).setCell ⟨g5,i*7+4,none⟩ (I ((b:Int)+1))).setCell ⟨g5,i*7+5,none⟩ (I ((s.now:Int)+(X:Int)))).setCell ⟨g5,i*7+6,none⟩ (.slice ua un uc)):=hW;clear hW F B G d J T aC aI aV y;go_wp2_with fail;go_region
     all_goals
      go_wp2_with fail;go_region
      all_goals
       go_wp2_with fail;rw[<-aT.out];obtain⟨P',g',b',aU⟩:=ad.out;exact⟨⟨i+1,by omega,by omega,by go_num,⟨_,_,_,rfl⟩,P',g',b',aU.later ⟨rfl,rfl,rfl,b_ _,λ_ _=>rfl⟩⟩,by simp[intOf];omega⟩
    have O:Hid (¬(f.by_=0/\f.job.isNone=true)):=λh=>by
     have h1:=r.out.2.2.1;rw[Option.isNone_iff_eq_none.1 h.2] at h1;exact h4 h1
    have bb:((v4:Int)==0)=false:=beq_false_of_ne (by omega);go_wp2_with fail;exact⟨⟨i+1,by omega,by omega,by go_num,⟨_,_,_,rfl⟩,y.out O.out⟩,by simp[intOf];omega⟩
  have aH:¬((i:Int)<(V:Int)):=by omega
  have aa:(i:Int)<(a.length:Int):=by omega
  have K:Hid (bM w0 wr nb n0 c (s.begin c)):=R.out.fin E.out (by rw[<-S.out.1,show V-i=0 by omega];rfl);go_wp2_with fail;refine be_ ⟨rfl,K.out⟩
 have aa:¬((i:Int)<(a.length:Int)):=by omega
 have K:Hid (bM w0 wr nb n0 c (s.begin c)):=R.out.fin E.out (by rw[List.drop_eq_nil_of_le (by rw[<-aw.out];omega),t8]);go_wp2_with fail;refine be_ ⟨rfl,K.out⟩
variable{F:Sv->Sv}{W:World}
theorem aS.setRow (h:aS w0 w nb n0 c s z)(hsv:z.sv=s_ g5 0 z.zs.length sc)(hi:i<z.zs.length)(y':Sv)(hW:W.ownsRow w0.heap.size 170 7 (s_ g5 0 z.zs.length sc) z.zs.length ((z.zs.set i y').flatMap cSg))(hG:w.grownBy W (some g5))(hs:dC w0 w (s.top n0) z.zs[i]->dC w0 w (s.top n0) y')(hl:y'.lv=z.zs[i].lv):
 aS w0 W nb n0 c {s with segs:=(z.zs.set i y').map Sv.x} {z with zs:=z.zs.set i y'}:=by
 have a:some nb≠some g5:=λe=>cf h.srow h.box (by decide) (by rw[hsv,e];rfl);have g:ai w W λk=>k=nb\/z.sv.ownBlock=some k:=ai.of_grown hG λk hk=>.inr (by rw[hsv];exact hk);refine h.setSegs (zs':=z.zs.set i y') (b:=s.begun) (t:=s.now) g (h.box.grown hG a) (by rw[List.length_set,hsv];exact hW) λy d=>?_;rcases List.mem_or_eq_of_mem_set d with d|rfl
 ·exact h.segs y d
 have f:=h.segs _ (i_ hi);exact⟨hs f.1,by rw[hl];exact f.2⟩
def bu (w0 wr:World)(nb n0:Nat)(c:Cfg)(s:Ts)(z:Nz)(F:Sv->Sv)(i:Nat):Prop:=aS w0 wr nb n0 c {s with segs:=(aW F z.zs i).map Sv.x} {z with zs:=aW F z.zs i}
theorem bu.step (h:bu w0 w nb n0 c s z F i)(hsv:z.sv=s_ g5 0 z.zs.length sc)(hi:i<z.zs.length)(hW:W.ownsRow w0.heap.size 170 7 (s_ g5 0 z.zs.length sc) z.zs.length (((aW F z.zs i).set i (F z.zs[i])).flatMap cSg))(hG:w.grownBy W (some g5))(hs:dC w0 w (s.top n0) z.zs[i]->dC w0 w (s.top n0) (F z.zs[i]))(hl:(F z.zs[i]).lv=z.zs[i].lv):bu w0 W nb n0 c s z F (i+1):=by
 have b:i<(aW F z.zs i).length:=by rw[bf];exact hi
 have a:=bV F z.zs hi;have:=aS.setRow (g5:=g5) (sc:=sc) (i:=i) h (by rw[bf];exact hsv) b (F z.zs[i]) (by show W.ownsRow _ _ _ (.slice _ (aW F z.zs i).length _) (aW F z.zs i).length _;rw[bf];exact hW) hG (by show dC w0 w (s.top n0) (aW F z.zs i)[i]->_;rw[a];exact hs) (by show _=((aW F z.zs i)[i]).lv;rw[a];exact hl);unfold bu;rw[<-dQ F z.zs hi];exact this
theorem bu.same (h:bu w0 w nb n0 c s z F i)(hi:i<z.zs.length)(hF:F z.zs[i]=z.zs[i]):bu w0 w nb n0 c s z F (i+1):=by
 have b:i<(aW F z.zs i).length:=by rw[bf];exact hi
 have a:=bV F z.zs hi;unfold bu;rw[<-dQ F z.zs hi,hF,<-a,List.set_getElem_self];exact h
theorem bu.row (h:bu w0 w nb n0 c s z F i)(hsv:z.sv=s_ g5 0 z.zs.length sc):w.ownsRow w0.heap.size 170 7 (s_ g5 0 z.zs.length sc) z.zs.length ((aW F z.zs i).flatMap cSg):=by
 have a:=aS.srow h;rwa [hsv,bf] at a
theorem bu.cell (h:bu w0 w nb n0 c s z F i)(hsv:z.sv=s_ g5 0 z.zs.length sc)(hi:i<z.zs.length){j:Nat}{u:Value}(hj:j<7)(hu:(cSg z.zs[i])[j]? =some u):w.cell? ⟨g5,i*7+j,none⟩=some u:=by
 have a:i<(aW F z.zs i).length:=by rw[bf];exact hi
 have:=(Sl.of_row (h.row hsv)).cell (j:=i*7+j) (u:=u) (by
  rw[aq cSg 7 (λ_=>rfl) (aW F z.zs i) i j a hj,bV F z.zs hi];exact hu)
 rwa [O_] at this
theorem bu.done (h:bu w0 w nb n0 c s z F z.zs.length):bM w0 w nb n0 c {s with segs:=(z.zs.map F).map Sv.x}:=by
 unfold bu at h;rw[jN F z.zs (b_ _)] at h;exact⟨_,h⟩
theorem bu.start (h:aS w0 w nb n0 c s z):bu w0 w nb n0 c s z F 0:=by
 unfold bu;rw[iT,h.ss];exact h
theorem bu.put (h:bu w0 w nb n0 c s z F i)(hsv:z.sv=s_ g5 0 z.zs.length sc)(hi:i<z.zs.length)(j:Nat)(vs:List Value)(hj:j+vs.length<=7)(hy:cSg (F z.zs[i])=fD (cSg z.zs[i]) j vs):(rV w g5 (i*7+j) vs).ownsRow w0.heap.size 170 7 (s_ g5 0 z.zs.length sc) z.zs.length (((aW F z.zs i).set i (F z.zs[i])).flatMap cSg)/\w.grownBy (rV w g5 (i*7+j) vs) (some g5):=by
 have a:i<(aW F z.zs i).length:=by rw[bf];exact hi
 rw[lg cSg 7 (λ_=>rfl) j vs hj (aW F z.zs i) i a (F z.zs[i]) (by rw[bV F z.zs hi];exact hy)];exact kz vs (i*7+j) (h.row hsv)
def Sv.lose (y:Sv):Sv:=⟨{y.x with job:=none},y.lv,y.til,y.tv,y.cl⟩
variable{pass:Bool}{N now num:Nat}{y:Sv}
def sets (xs:List Value)(o:Nat)(ops:List (Nat×Value)):List Value:=ops.foldl (λxs p=>xs.set (o+p.1) p.2) xs
def zq (w:World)(g o:Nat)(ops:List (Nat×Value)):World:=ops.foldl (λw p=>w.setCell ⟨g,o+p.1,none⟩ p.2) w
theorem nH:∀(ops:List (Nat×Value)) (a b:List Value) (o:Nat),sets (a++b) (a.length+o) ops=a++sets b o ops
 |[],_,_,_=>rfl
 |p::ops,a,b,o=>by
  have e:(a++b).set (a.length+o+p.1) p.2=a++b.set (o+p.1) p.2:=by
   rw[List.set_append_right _ _ (by omega),show a.length+o+p.1-a.length=o+p.1 by omega]
  show sets ((a++b).set (a.length+o+p.1) p.2) (a.length+o) ops=a++sets (b.set (o+p.1) p.2) o ops;rw[e];exact nH ops a _ o
theorem pl:∀(ops:List (Nat×Value)) (a b:List Value),(∀p∈ops,p.1<a.length)->sets (a++b) 0 ops=sets a 0 ops++b
 |[],_,_,_=>rfl
 |p::ops,a,b,h=>by
  have hp:=h p D_
  have e:(a++b).set (0+p.1) p.2=a.set (0+p.1) p.2++b:=List.set_append_left _ _ (by omega)
  show sets ((a++b).set (0+p.1) p.2) 0 ops=sets (a.set (0+p.1) p.2) 0 ops++b
  rw[e]
  exact pl ops _ b λq hq=>by rw[List.length_set];exact h q (List.mem_cons_of_mem _ hq)
theorem pk (enc:α->List Value)(k:Nat)(hk:∀x,(enc x).length=k)(ops:List (Nat×Value))(ho:∀p∈ops,p.1<k):∀(l:List α) (i:Nat) (h:i<l.length) (y:α),enc y=sets (enc l[i]) 0 ops->(l.set i y).flatMap enc=sets (l.flatMap enc) (i*k) ops
 |x::l,0,_,y,hy=>by
  rw[List.set_cons_zero,F_,F_,Nat.zero_mul,pl _ _ _ (by rw[hk];exact ho),hy];rfl
 |x::l,i+1,h,y,hy=>by
  rw[List.set_cons_succ,F_,F_,pk enc k hk ops ho l i (by simpa using h) y hy,show (i+1)*k=(enc x).length+i*k by rw[hk,Nat.add_mul];omega,nH]
theorem rX:∀(ops:List (Nat×Value)) {w:World} {base g n cap size:Nat} {e:TypeId} {xs:List Value} (o:Nat),w.ownsRow base e size (s_ g 0 n cap) n xs->(zq w g o ops).ownsRow base e size (s_ g 0 n cap) n (sets xs o ops)/\w.grownBy (zq w g o ops) (some g)
 |[],w,_,g,_,_,_,_,_,_,h=>⟨h,World.grownBy.refl _ _⟩
 |p::ops,w,_,g,_,_,_,_,_,o,h=>by
  obtain⟨h1,h2⟩:=h.stored (o+p.1) p.2
  obtain⟨a,b⟩:=rX ops o h1
  exact⟨a,h2.trans b⟩
theorem bu.sets (h:bu w0 w nb n0 c s z F i)(hsv:z.sv=s_ g5 0 z.zs.length sc)(hi:i<z.zs.length)(ops:List (Nat×Value))(ho:∀p∈ops,p.1<7)(hy:cSg (F z.zs[i])=Go.Proofs.YtgamgomepdfgdaaGreat.sets (cSg z.zs[i]) 0 ops)(hW:W=zq w g5 (i*7) ops)(hs:dC w0 w (s.top n0) z.zs[i]->dC w0 w (s.top n0) (F z.zs[i]))(hl:(F z.zs[i]).lv=z.zs[i].lv):bu w0 W nb n0 c s z F (i+1)/\w.grownBy W (some g5):=by
 have b:i<(aW F z.zs i).length:=by rw[bf];exact hi
 have a:=rX ops (i*7) (h.row hsv);rw[<-pk cSg 7 (λ_=>rfl) ops ho (aW F z.zs i) i b (F z.zs[i]) (by rw[bV F z.zs hi];exact hy),<-hW] at a;exact⟨h.step hsv hi a.1 a.2 hs hl,a.2⟩
def Sv.ans (num:Nat)(pass:Bool)(y:Sv):Sv:=if y.x.runs num then ⟨y.x.ends pass num,y.lv,y.til,y.tv,y.cl⟩ else y
theorem Sv.ans_is (h:dC w0 w N y):dC w0 w N (y.ans num pass):=by
 unfold Sv.ans;split
 ·exact⟨⟨by show y.cl.map Prod.fst=(y.x.ends pass num).l;rw[Sm.ends_l];exact h.l.fst,h.l.row,h.l.eds⟩,h.sl,λj hj=>by
   have:(y.x.ends pass num).job=some j:=hj;rw[Sm.ends_job] at this
   cases this⟩
 exact h
theorem Sv.ans_lv:(y.ans num pass).lv=y.lv:=by unfold Sv.ans;split<;>rfl
theorem Sv.ans_yes (hr:y.x.runs num=true)(hn:1<=num):cSg (y.ans num true)=sets (cSg y) 0 [(4,I 0),(3,.bool true),(2,I num)]:=by
 have a:(num !=0)=true:=by simp;omega
 rw[Sv.ans,if_pos hr];show [y.lv,I y.x.fails,I num,.bool (num !=0),I 0,I y.til,y.tv]=_;rw[a];rfl
theorem Sv.ans_no (hr:y.x.runs num=true):cSg (y.ans num false)=sets (cSg y) 0 [(4,I 0),(1,I ((y.x.fails:Int)+1))]:=by
 rw[Sv.ans,if_pos hr];rfl
theorem lh {x:Sm}(hn:1<=num):cr x.job=num↔x.runs num=true:=by
 rw[Sm.runs_iff];cases hj:x.job with
 |none=>simp[cr];omega
 |some j=>simp[cr]
theorem D9 (num:Nat)(pass:Bool)(zs:List Sv):(zs.map (Sv.ans num pass)).map Sv.x=(zs.map Sv.x).map λx=>if x.runs num then x.ends pass num else x:=by
 rw[y_,y_];refine List.map_congr_left λy _=>?_;show (y.ans num pass).x=_;unfold Sv.ans;by_cases h:y.x.runs num=true
 ·simp[h]
 simp[h]
def Sv.tick (now:Nat)(y:Sv):Sv:=if y.x.due now then ⟨y.x.ends false 0,y.lv,y.til,y.tv,y.cl⟩ else y
theorem Sv.tick_is (h:dC w0 w N y):dC w0 w N (y.tick now):=by
 unfold Sv.tick;split
 ·exact⟨⟨by show y.cl.map Prod.fst=(y.x.ends false 0).l;rw[Sm.ends_l];exact h.l.fst,h.l.row,h.l.eds⟩,h.sl,λj hj=>by
   have:(y.x.ends false 0).job=some j:=hj;rw[Sm.ends_job] at this
   cases this⟩
 exact h
theorem Sv.tick_lv:(y.tick now).lv=y.lv:=by unfold Sv.tick;split<;>rfl
theorem Sv.tick_no (hr:y.x.due now=true):cSg (y.tick now)=sets (cSg y) 0 [(4,I 0),(1,I ((y.x.fails:Int)+1))]:=by
 rw[Sv.tick,if_pos hr];rfl
theorem CH (now:Nat)(zs:List Sv):(zs.map (Sv.tick now)).map Sv.x=(zs.map Sv.x).map λx=>if x.due now then x.ends false 0 else x:=by
 rw[y_,y_];refine List.map_congr_left λy _=>?_;show (y.tick now).x=_;unfold Sv.tick;by_cases h:y.x.due now=true
 ·simp[h]
 simp[h]
theorem Ff (num:Nat)(pass:Bool)(h:bM w0 w nb n0 c s)(hI:s.Inv c):
 c_ 131 #[Px nb,.agg #[I 7,I 0,I num,.bool pass,Zn]] w λe w'=>e=.returned (.tuple #[])/\bM w0 w' nb n0 c s.lose:=by
 obtain⟨⟨k,o,f,r,M,p,q,t,a⟩,h⟩:=h;have d:a.map Sv.x=s.segs:=h.ss
 have L:a.length<=8:=by
  have:=cY hI;rwa [<-d,d_] at this
 obtain⟨g,sc,rfl⟩:∃g sc,M=.slice g a.length sc:=ag h.srow;have z:=h.later (af w (.cells #[I 7,I 0,I num,.bool pass,Zn] 168));have u:=Bx.new w #[I 7,I 0,I num,.bool pass,Zn] 168;have n:=hd d;have B:(Value.slice g a.length sc).ownBlock≠some w.heap.size:=λe=>by have:=(f_ h.srow _ e).2;omega
 clear h d hI;go_enter func131,ntmps131;go_upto_region 1 with fail;generalize w.alloc (.cells #[I 7,I 0,I num,.bool pass,Zn] 168)=N at *;have R:=u.c 0 (I 7);clear u;have C:Hid (bu w0 N nb n0 c s ⟨k,o,f,r,.slice g a.length sc,p,q,t,a⟩ Sv.lose 0):=bu.start z;clear z;go_wp2_with fail;go_loopw [7] (λiv wr=>∃i:Nat,i<=a.length/\iv=I i/\Hid (bu w0 wr nb n0 c s ⟨k,o,f,r,.slice g a.length sc,p,q,t,a⟩ Sv.lose i)) (λi _=>a.length-(intOf i).toNat)
 case atStart=>exact⟨0,k_ _,rfl,C⟩
 obtain⟨i,J,rfl,b⟩:=hrel;have F:wr.cell? ⟨nb,11,none⟩=some (.slice g a.length sc):=(aS.box b.out).cell (i:=11) rfl;by_cases hlt:i<a.length
 ·have E:True:=trivial
  obtain⟨g5,K⟩:∃g5,g=some ⟨g5,0,none⟩:=by
   rcases (aS.srow b.out).2 with ⟨_,y⟩|⟨g5,O,G,e,_⟩
   ·rw[bf] at y;simp only at y;omega
   injection e with e1 e2 e3;exact⟨g5,e1⟩
  subst K;have P:=b.out.cell (g5:=g5) (sc:=sc) rfl hlt (j:=4) (by decide) rfl;have Q:=(Sl.of_row (b.out.row (g5:=g5) (sc:=sc) rfl)).fr (i*7+4)
  have m:Hid (bu w0 (wr.setCell ⟨g5,i*7+4,none⟩ (I 0)) nb n0 c s ⟨k,o,f,r,s_ g5 0 a.length sc,p,q,t,a⟩ Sv.lose (i+1)):=by
   have A:=b.out.put (g5:=g5) (sc:=sc) rfl hlt 4 [I 0] (by simp) rfl;exact b.out.step (g5:=g5) (sc:=sc) rfl hlt A.1 A.2 (λhs=>⟨hs.l,hs.sl,λj hj=>by cases hj⟩) rfl
  clear E;go_wp2_with fail;exact⟨⟨i+1,hlt,by go_num,m.out⟩,by simp[intOf];omega⟩
 obtain rfl:i=a.length:=by omega
 have D:Hid (bM w0 wr nb n0 c s.lose):=by
  have H:=bu.done b.out
  have e:s.lose={s with segs:=(a.map Sv.lose).map Sv.x}:=by
   unfold Ts.lose;rw[<-n.out,y_,y_];rfl
  rw[e];exact H
 go_wp2_with fail;exact be_ ⟨rfl,D.out⟩
theorem bu.later (h:bu w0 w nb n0 c s z F i)(hb:Bl w w'):bu w0 w' nb n0 c s z F i:=aS.later h hb
theorem Fd (num:Nat)(pass:Bool)(h:bM w0 w nb n0 c s)(hI:s.Inv c)(hc:c.Ok)(hnum:1<=num):
 c_ 131 #[Px nb,.agg #[I 4,I 0,I num,.bool pass,Zn]] w λe w'=>e=.returned (.tuple #[])/\bM w0 w' nb n0 c (s.answer num pass):=by
 obtain⟨⟨k,D,g,F,sv,E,q,G,a⟩,h⟩:=h;have B:a.map Sv.x=s.segs:=h.ss
 have aj:a.length<=8:=by
  have:=cY hI;rwa [<-B,d_] at this
 obtain⟨r,sc,rfl⟩:∃r sc,sv=.slice r a.length sc:=ag h.srow;have Y:=h.later (af w (.cells #[I 4,I 0,I num,.bool pass,Zn] 168));have Q:=Bx.new w #[I 4,I 0,I num,.bool pass,Zn] 168;have H:=hd B;have HI:=hd hI;have aa:nb<w.heap.size:=h.box.lt;have L:(Value.slice r a.length sc).ownBlock≠some w.heap.size:=λe=>by have:=(f_ h.srow _ e).2;omega
 clear h B hI;go_enter func131,ntmps131;go_upto_region 1 with fail;generalize w.alloc (.cells #[I 4,I 0,I num,.bool pass,Zn] 168)=w1 at *;have x0:=Q.c 0 (I 4);have HX:=hd Q;clear Q;have H1:Hid (bu w0 w1 nb n0 c s ⟨k,D,g,F,.slice r a.length sc,E,q,G,a⟩ (Sv.ans num pass) 0):=bu.start Y;have ah:=hc.2.2.2.2.1;clear Y;go_wp2_with fail;go_loopw [5] (λiv wr=>∃i:Nat,i<=a.length/\iv=I i/\Hid (bu w0 wr nb n0 c s ⟨k,D,g,F,.slice r a.length sc,E,q,G,a⟩ (Sv.ans num pass) i)/\Hid (Bx wr w.heap.size 168 #[I 4,I 0,I num,.bool pass,Zn])) (λi _=>a.length-(intOf i).toNat)
 case atStart=>exact⟨0,k_ _,rfl,H1,HX⟩
 obtain⟨i,ac,rfl,d,p⟩:=hrel;have J:wr.cell? ⟨nb,11,none⟩=some (.slice r a.length sc):=(aS.box d.out).cell (i:=11) rfl;by_cases hlt:i<a.length
 ·have U:r≠none:=λe=>by
   have u:=(aS.srow d.out).2;rw[e] at u;rcases u with ⟨_,u⟩|⟨g5,c5,R,e',_⟩
   ·rw[bf] at u;simp only at u;omega
   injection e' with e1 e2 e3;cases e1
  obtain⟨g5,hv⟩:∃g5,r=some ⟨g5,0,none⟩:=by
   rcases (aS.srow d.out).2 with ⟨_,u⟩|⟨g5,c5,R,e,_⟩
   ·rw[bf] at u;simp only at u;omega
   injection e with e1 e2 e3;exact⟨g5,e1⟩
  subst hv;have n:g5≠w.heap.size:=λe=>L (by rw[e];rfl);obtain⟨l,C⟩:∃l,l=cr a[i].x.job:=⟨_,rfl⟩;obtain⟨t,M⟩:∃t,t=a[i].x.fails:=⟨_,rfl⟩
  have ab:t<=4:=by
   have o:=HI.out.sm a[i].x (by rw[<-H.out];exact x_ (i_ hlt));have P:=o.fails;omega
  have X:wr.cell? ⟨g5,i*7+4,none⟩=some (I l):=d.out.cell (g5:=g5) (sc:=sc) rfl hlt (j:=4) (by decide) (by rw[C];rfl);have x2:=p.out.c 2 (I num);have O:Hid (l=cr a[i].x.job/\t=a[i].x.fails):=⟨C,M⟩;clear U C M;by_cases hr:l=num
  ·subst hr;have V:Hid (a[i].x.runs l=true):=(lh hnum).1 O.out.1.symm;go_upto_region 17 with fail;go_quiet (fail);go_upto_region 18 with fail;generalize N:World.drewN wr _=w2;have m:Bl wr w2:=N▸⟨rfl,rfl,rfl,b_ _,λ_ _=>rfl⟩;have b:Hid (bu w0 w2 nb n0 c s ⟨k,D,g,F,s_ g5 0 a.length sc,E,q,G,a⟩ (Sv.ans l pass) i):=d.out.later m;have y:Hid (Bx w2 w.heap.size 168 #[I 4,I 0,I l,.bool pass,Zn]):=p.out.later m;have k4:=ae m X;have ak:=ae m J;have k2:=ae m x2;have k3:=y.out.c 3 (.bool pass);have m1:w2.cell? ⟨g5,i*7+1,none⟩=some (I t):=b.out.cell (g5:=g5) (sc:=sc) rfl hlt (j:=1) (by decide) (by rw[O.out.2];rfl);have m2:=b.out.cell (g5:=g5) (sc:=sc) rfl hlt (j:=2) (by decide) rfl;have m3:=b.out.cell (g5:=g5) (sc:=sc) rfl hlt (j:=3) (by decide) rfl;have K:=λj=>(Sl.of_row (b.out.row (g5:=g5) (sc:=sc) rfl)).fr j;have f1:=K (i*7+1);have f2:=K (i*7+2);have f3:=K (i*7+3);have f4:=K (i*7+4);have T:g5≠nb:=λe=>cf (aS.srow b.out) (aS.box b.out) (by decide) (by rw[e];rfl);have Z:nb≠g5:=T.symm;have S:w.heap.size≠g5:=n.symm;have ai:IntKind.i64.wrap ((t:Int)+1)=(t:Int)+1:=wrap_i64 (by omega) (by omega);clear N m X J x2 d p K;cases pass with
   |true=>
    obtain⟨W,A⟩:∃W,W=((w2.setCell ⟨g5,i*7+4,none⟩ (I 0)).setCell ⟨g5,i*7+3,none⟩ (.bool true)).setCell ⟨g5,i*7+2,none⟩ (I l):=⟨_,rfl⟩
    have f:Hid (bu w0 W nb n0 c s ⟨k,D,g,F,s_ g5 0 a.length sc,E,q,G,a⟩ (Sv.ans l true) (i+1)/\Bx W w.heap.size 168 #[I 4,I 0,I l,.bool true,Zn]):=by
     obtain⟨o,P⟩:=b.out.sets (g5:=g5) (sc:=sc) rfl hlt [(4,I 0),(3,.bool true),(2,I l)] (by simp) (Sv.ans_yes V.out hnum) A Sv.ans_is Sv.ans_lv;exact⟨o,y.out.grown P (by intro e;injection e with e;exact n e.symm)⟩
    have z:=hd A;clear A;go_wp2_with fail;go_region
    all_goals
     go_wp2_with fail;rw[<-z.out];exact⟨⟨i+1,hlt,by go_num,f.out.1.later ⟨rfl,rfl,rfl,b_ _,λ_ _=>rfl⟩,f.out.2⟩,by simp[intOf];omega⟩
   |false=>
    obtain⟨W,A⟩:∃W,W=(w2.setCell ⟨g5,i*7+4,none⟩ (I 0)).setCell ⟨g5,i*7+1,none⟩ (I ((t:Int)+1)):=⟨_,rfl⟩
    have f:Hid (bu w0 W nb n0 c s ⟨k,D,g,F,s_ g5 0 a.length sc,E,q,G,a⟩ (Sv.ans l false) (i+1)/\Bx W w.heap.size 168 #[I 4,I 0,I l,.bool false,Zn]):=by
     obtain⟨o,P⟩:=b.out.sets (g5:=g5) (sc:=sc) rfl hlt [(4,I 0),(1,I ((t:Int)+1))] (by simp) (by rw[O.out.2];exact Sv.ans_no V.out) A Sv.ans_is Sv.ans_lv;exact⟨o,y.out.grown P (by intro e;injection e with e;exact n e.symm)⟩
    have z:=hd A;clear A;go_wp2_with fail;go_region
    all_goals
     go_wp2_with fail;rw[<-z.out];exact⟨⟨i+1,hlt,by go_num,f.out.1.later ⟨rfl,rfl,rfl,b_ _,λ_ _=>rfl⟩,f.out.2⟩,by simp[intOf];omega⟩
  have ad:((l:Int)==(num:Int))=false:=beq_false_of_ne (by omega)
  have f:Hid (bu w0 wr nb n0 c s ⟨k,D,g,F,s_ g5 0 a.length sc,E,q,G,a⟩ (Sv.ans num pass) (i+1)):=d.out.same hlt (by
   rw[Sv.ans,if_neg];intro o
   exact hr (O.out.1.trans ((lh hnum).2 o)))
  go_upto_region 17 with fail;go_quiet (fail);go_wp2_with fail;exact⟨⟨i+1,hlt,by go_num,f.out.later ⟨rfl,rfl,rfl,b_ _,λ_ _=>rfl⟩,p.out⟩,by simp[intOf];omega⟩
 obtain rfl:i=a.length:=by omega
 have HF:Hid (bM w0 wr nb n0 c (s.answer num pass)):=by
  have o:=bu.done d.out;rw[show (⟨k,D,g,F,.slice r a.length sc,E,q,G,a⟩:Nz).zs=a from rfl,D9,H.out] at o;exact o
 go_wp2_with fail;exact be_ ⟨rfl,HF.out⟩
theorem Fe (num:Nat)(pass:Bool)(h:bM w0 w nb n0 c s)(hI:s.Inv c)(hc:c.Ok)(hnum:num<=1000)(hnw:s.now<1048576000):
 c_ 131 #[Px nb,.agg #[I 5,I 0,I num,.bool pass,Zn]] w λe w'=>e=.returned (.tuple #[])/\bM w0 w' nb n0 c (s.tick num):=by
 obtain⟨⟨k,B,g,D,sv,C,q,E,a⟩,h⟩:=h;have M:a.map Sv.x=s.segs:=h.ss
 have ax:a.length<=8:=by
  have:=cY hI;rwa [<-M,d_] at this
 obtain⟨u,sc,rfl⟩:∃u sc,sv=.slice u a.length sc:=ag h.srow;have J:=h.later (af w (.cells #[I 5,I 0,I num,.bool pass,Zn] 168));have X0:=Bx.new w #[I 5,I 0,I num,.bool pass,Zn] 168;have G:=hd M;have HI:=hd hI;have ao:nb<w.heap.size:=h.box.lt;have ap:(Value.slice u a.length sc).ownBlock≠some w.heap.size:=λe=>by have:=(f_ h.srow _ e).2;omega
 clear h M hI;go_enter func131,ntmps131;go_upto_region 1 with fail;generalize w.alloc (.cells #[I 5,I 0,I num,.bool pass,Zn] 168)=S at *;have x0:=X0.c 0 (I 5);have HX:=hd X0;clear X0;have av:=hc.2.2.2.2.1;have y:=J.box;have H:=y.c 15 (I s.now);have ac:=y.fr 15;have x2:=HX.out.c 2 (I num);have am:IntKind.i64.wrap ((s.now:Int)+(num:Int))=(s.now:Int)+(num:Int):=wrap_i64 (by omega) (by omega)
 have H2:Hid (aS w0 (S.setCell ⟨nb,15,none⟩ (I ((s.now:Int)+(num:Int)))) nb n0 c {s with now:=s.now+num} ⟨k,B,g,D,.slice u a.length sc,C,q,E,a⟩):=by
  have hb:=y.set 15 (I ((s.now:Int)+(num:Int)));have hn:=J.setSegs (w':=S.setCell ⟨nb,15,none⟩ (I ((s.now:Int)+(num:Int)))) (zs':=a) (b:=s.begun) (t:=s.now+num) ((ai.refl _ _).set (.inl (.inl rfl))) hb (t_ J.srow (ah _ _ _ _) (d7 J.srow J.box (by decide))) J.segs;rw[G.out] at hn;exact hn
 have ab:Hid (Bx (S.setCell ⟨nb,15,none⟩ (I ((s.now:Int)+(num:Int)))) w.heap.size 168 #[I 5,I 0,I num,.bool pass,Zn]):=Bx.other HX.out (by omega) _ _;clear J y;go_upto_region 24 with fail;go_region
 all_goals
  go_upto_region 25 with fail;generalize r:World.drew (S.setCell ⟨nb,15,none⟩ (I ((s.now:Int)+(num:Int))))=w2;have l:Below (S.setCell ⟨nb,15,none⟩ (I ((s.now:Int)+(num:Int)))).heap.size (S.setCell ⟨nb,15,none⟩ (I ((s.now:Int)+(num:Int)))) w2:=r▸⟨rfl,rfl,rfl,b_ _,λ_ _=>rfl⟩;obtain⟨d,N⟩:∃d,d=s.now+num:=⟨_,rfl⟩;have Z:=hd N
  have H1:Hid (bu w0 w2 nb n0 c {s with now:=d} ⟨k,B,g,D,.slice u a.length sc,C,q,E,a⟩ (Sv.tick d) 0):=by
   have p:=H2.out.later l;rw[<-N] at p;exact bu.start p
  clear r l H2 ab N H ac x2 am;go_wp2_with fail;go_loopw [6] (λiv wr=>∃i:Nat,i<=a.length/\iv=I i/\Hid (bu w0 wr nb n0 c {s with now:=d} ⟨k,B,g,D,.slice u a.length sc,C,q,E,a⟩ (Sv.tick d) i)) (λi _=>a.length-(intOf i).toNat)
  case atStart=>exact⟨0,k_ _,rfl,H1⟩
  obtain⟨i,au,rfl,f⟩:=hrel;have T:wr.cell? ⟨nb,11,none⟩=some (.slice u a.length sc):=(aS.box f.out).cell (i:=11) rfl;have H:wr.cell? ⟨nb,15,none⟩=some (I d):=(aS.box f.out).cell (i:=15) rfl;by_cases hlt:i<a.length
  ·have X:u=u:=rfl
   obtain⟨g5,hv⟩:∃g5,u=some ⟨g5,0,none⟩:=by
    rcases (aS.srow f.out).2 with ⟨_,h0⟩|⟨g5,c5,aq,e,_⟩
    ·rw[bf] at h0;simp only at h0;omega
    injection e with e1 e2 e3;exact⟨g5,e1⟩
   subst hv;obtain⟨O,z⟩:∃O,O=cr a[i].x.job:=⟨_,rfl⟩;obtain⟨F,Y⟩:∃F,F=a[i].x.fails:=⟨_,rfl⟩;obtain⟨P,A⟩:∃P,P=a[i].til:=⟨_,rfl⟩;have L:=HI.out.sm a[i].x (by rw[<-G.out];exact x_ (i_ hlt))
   have ar:F<=4:=by
    have p:=L.fails;omega
   have V:i<(aW (Sv.tick d) a i).length:=by rw[bf];exact hlt
   have U:(aW (Sv.tick d) a i)[i]=a[i]:=bV _ a hlt
   have K:dC w0 wr (Ts.top n0 {s with now:=d}) a[i]:=by
    have p:=(aS.segs f.out (aW (Sv.tick d) a i)[i] (i_ V)).1;rw[U] at p;exact p
   have m:Hid (a[i].x.due d=true↔0<O/\P<=d):=by
    show _↔_;rw[Sm.due_iff];constructor
    ·rintro⟨j,R,aj⟩;have p:=(L.job j R).2.2.1;rw[z,R,A,(K.job j R).1];exact⟨p,aj⟩
    rintro⟨p,h4⟩;cases R:a[i].x.job with
    |none=>rw[z,R] at p;exact absurd p (by decide)
    |some j=>exact⟨j,rfl,by rw[<-(K.job j R).1,<-A];exact h4⟩
   have e4:wr.cell? ⟨g5,i*7+4,none⟩=some (I O):=f.out.cell (g5:=g5) (sc:=sc) rfl hlt (j:=4) (by decide) (by rw[z];rfl);have e5:wr.cell? ⟨g5,i*7+5,none⟩=some (I P):=f.out.cell (g5:=g5) (sc:=sc) rfl hlt (j:=5) (by decide) (by rw[A];rfl);have HV:=hd Y;clear X z Y A L V U K;by_cases hr:0<O
   ·have ak:(0:Int)<(O:Int):=by omega
    by_cases hu:P<=d
    ·have al:(P:Int)<=(d:Int):=by omega
     have HR:Hid (a[i].x.due d=true):=m.out.2 ⟨hr,hu⟩;go_upto_region 28 with fail;go_quiet (fail);go_upto_region 29 with fail;generalize r:World.drewN wr _=w3;have l:Bl wr w3:=r▸⟨rfl,rfl,rfl,b_ _,λ_ _=>rfl⟩;have n:Hid (bu w0 w3 nb n0 c {s with now:=d} ⟨k,B,g,D,s_ g5 0 a.length sc,C,q,E,a⟩ (Sv.tick d) i):=f.out.later l;have k4:=ae l e4;have ay:=ae l T;have m1:w3.cell? ⟨g5,i*7+1,none⟩=some (I F):=n.out.cell (g5:=g5) (sc:=sc) rfl hlt (j:=1) (by decide) (by rw[HV.out];rfl);have fr:=λj=>(Sl.of_row (n.out.row (g5:=g5) (sc:=sc) rfl)).fr j;have f1:=fr (i*7+1);have f4:=fr (i*7+4);have ad:g5≠nb:=λe=>cf (aS.srow n.out) (aS.box n.out) (by decide) (by rw[e];rfl);have an:nb≠g5:=ad.symm;have aw:IntKind.i64.wrap ((F:Int)+1)=(F:Int)+1:=wrap_i64 (by omega) (by omega);obtain⟨W,hW⟩:∃W,W=(w3.setCell ⟨g5,i*7+4,none⟩ (I 0)).setCell ⟨g5,i*7+1,none⟩ (I ((F:Int)+1)):=⟨_,rfl⟩
     have o:Hid (bu w0 W nb n0 c {s with now:=d} ⟨k,B,g,D,s_ g5 0 a.length sc,C,q,E,a⟩ (Sv.tick d) (i+1)):=
      (n.out.sets (g5:=g5) (sc:=sc) rfl hlt [(4,I 0),(1,I ((F:Int)+1))] (by simp) (by rw[HV.out];exact Sv.tick_no HR.out) hW Sv.tick_is Sv.tick_lv).1
     have aa:=hd hW;clear hW r l e4 e5 T H f fr;go_wp2_with fail;go_region
     all_goals
      go_wp2_with fail;rw[<-aa.out];exact⟨⟨i+1,hlt,by go_num,o.out.later ⟨rfl,rfl,rfl,b_ _,λ_ _=>rfl⟩⟩,by simp[intOf];omega⟩
    have al:¬((P:Int)<=(d:Int)):=by omega
    have o:Hid (bu w0 wr nb n0 c {s with now:=d} ⟨k,B,g,D,s_ g5 0 a.length sc,C,q,E,a⟩ (Sv.tick d) (i+1)):=f.out.same hlt (by
     rw[Sv.tick,if_neg];intro Q
     exact hu (m.out.1 Q).2)
    go_upto_region 28 with fail;go_quiet (fail);go_wp2_with fail;exact⟨⟨i+1,hlt,by go_num,o.out.later ⟨rfl,rfl,rfl,b_ _,λ_ _=>rfl⟩⟩,by simp[intOf];omega⟩
   have ak:¬((0:Int)<(O:Int)):=by omega
   have o:Hid (bu w0 wr nb n0 c {s with now:=d} ⟨k,B,g,D,s_ g5 0 a.length sc,C,q,E,a⟩ (Sv.tick d) (i+1)):=f.out.same hlt (by
    rw[Sv.tick,if_neg];intro Q
    exact hr (m.out.1 Q).1)
   go_upto_region 28 with fail;go_quiet (fail);go_wp2_with fail;exact⟨⟨i+1,hlt,by go_num,o.out.later ⟨rfl,rfl,rfl,b_ _,λ_ _=>rfl⟩⟩,by simp[intOf];omega⟩
  obtain rfl:i=a.length:=by omega
  have HF:Hid (bM w0 wr nb n0 c (s.tick num)):=by
   have Q:=bu.done f.out;rw[show (⟨k,B,g,D,.slice u a.length sc,C,q,E,a⟩:Nz).zs=a from rfl,CH,G.out,Z.out] at Q;exact Q
  go_wp2_with fail;exact be_ ⟨rfl,HF.out⟩
end
end Go.Proofs.YtgamgomepdfgdaaGreat
