import Derived.Test.YtgamgomepdfgdaaGreatAM21
import Derived.Test.YtgamgomepdfgdaaGreatAM15
set_option maxRecDepth 100000
set_option maxHeartbeats 8000000
namespace Go.Proofs.YtgamgomepdfgdaaGreat
open Go.RowKit Go.Proofs.Tryz
section
variable{cl:List Cw}{xs:List Value}{N b base k n p:Nat}{S:Nat->Prop}{o:Obj}{a0 a1 a2 a3 cv rv v1 v2:Value}{W W' w w1 w3:World}
theorem ut (p b:Nat)(w:World)(c2:w.cell? ⟨p,2,none⟩=some (I b)):
 c_ 189 #[Px p] w λe w'=>e=.returned (.bool (b !=0))/\w'=w:=by
 by_cases hb:b=0
 ·subst hb;go_enter func189,ntmps189;go_wp2;go_ret;exact⟨rfl,rfl⟩
 obtain⟨r,a⟩:∃r:Bool,r=(b !=0):=⟨_,rfl⟩;rw[<-a];obtain rfl:r=true:=by rw[a];simpa using hb
 clear a;have d:((b:Int) !=0)=true:=by simp;omega
 have c:((b:Int)==0)=false:=by simp;omega
 go_enter func189,ntmps189;go_wp2;go_ret;exact⟨rfl,rfl⟩
theorem xh (hb3:Bl W w3)(hW:W.heap[b]? =some o):w3.heap[b]? =some o:=(hb3.block b (j_.1 hW).1).trans hW
theorem CS (h:W.heap[b]? =some o):W.drew.heap[b]? =some o:=h
theorem zK (h:b=W.heap.size):(W.alloc o).heap[b]? =some o:=by rw[h];exact World.alloc_heap_new W o
theorem nL {v0 v3:Value}(hb:Below n w1 W)(hB:Bx W b 119 #[a0,a1,a2,a3])(hn:n<=b)(hr:W.ownsRow base 3 1 rv k xs):
 Bx ((((W.setCell ⟨b,0,none⟩ v0).setCell ⟨b,1,none⟩ v1).setCell ⟨b,2,none⟩ v2).setCell ⟨b,3,none⟩ v3) b 119 #[v0,v1,v2,v3]/\Below n w1 ((((W.setCell ⟨b,0,none⟩ v0).setCell ⟨b,1,none⟩ v1).setCell ⟨b,2,none⟩ v2).setCell ⟨b,3,none⟩ v3)/\World.ownsRow ((((W.setCell ⟨b,0,none⟩ v0).setCell ⟨b,1,none⟩ v1).setCell ⟨b,2,none⟩ v2).setCell ⟨b,3,none⟩ v3) base 3 1 rv k xs:=by
 have a:=hB.lt;have O:ai W ((((W.setCell ⟨b,0,none⟩ v0).setCell ⟨b,1,none⟩ v1).setCell ⟨b,2,none⟩ v2).setCell ⟨b,3,none⟩ v3) (λk=>k=b):=((((ai.refl W (λk=>k=b)).set (b:=b) (.inl rfl)).set (b:=b) (.inl rfl)).set (b:=b) (.inl rfl)).set (b:=b) (.inl rfl);have K:=aM.of_only (ts:=[119]) O λk e=>⟨119,by simp,by rw[e];exact hB.ty⟩;exact⟨(((hB.set 0 v0).set 1 v1).set 2 v2).set 3 v3,⟨O.os.trans hb.os,O.tape.trans hb.tape,O.output.trans hb.output,e_ hb.size O.size,λk hk=>(O.block k (by omega) (by omega)).trans (hb.block k hk)⟩,K.row hr (by decide)⟩
theorem xj (h2:Bl W W')(hr:W'.ownsRow W.heap.size 3 1 rv k xs)(hn:w1.heap.size=n)(h1:Bl w1 W):Below n w1 W'/\W'.ownsRow n 3 1 rv k xs:=by
 subst hn;exact⟨h1.trans (h2.mono h1.size),cp hr h1.size⟩
theorem cK {p:Prop}(h:p):Hid p:=h
theorem gT (h:Bl w W):Bl w (W.alloc o):=h.trans ((af W o).mono h.size)
theorem fX (h:Bl w W):Bl w W.drew:=⟨h.os,h.tape,h.output,h.size,h.block⟩
theorem Bq {x:Sm}{jv:Value}(h:q7 w S N p x cv jv cl)(hn:cl.length<=8):
 c_ 148 #[ptr p] w λe w'=>(∃v',e=.returned (.agg #[v',I x.fails,.bool (x.by_ !=0),I (cr x.job)])/\w'.ownsRow w.heap.size 3 1 v' cl.length (cl.map λy=>cI y.1.1))/\Bl w w':=by
 have D:=h.box;have X:=D.c 1 (I x.fails);have R:=D.c 2 (I x.by_);have Y:=D.c 3 jv;have ah:=D.lt;have C:Hid (Bx w p 240 (cz cv x.fails x.by_ jv)):=D;have HS:Hid (Sl w 273 2 cv cl.length (cl.flatMap cC)):=h.chs.row;have L:Hid (∀y∈cl,bD y.2):=h.chs.sl;have HI:Hid (∀W,Bl w W->c_ 149 #[Px p] W λe w'=>(∃v',e=.returned v'/\w'.ownsRow W.heap.size 3 1 v' cl.length (cl.map λy=>cI y.1.1))/\Bl W w'):=λW E=>tF p _ cv cl W (C.out.later E) rfl (HS.out.later E) L.out hn;have HJ:Hid (gJ w S N jv x.job):=h.job
 have aa:∃F,jv=.pointer F:=by
  have:=h.job;cases ej:x.job with
  |none=>rw[ej] at this;exact⟨_,this⟩
  |some j=>rw[ej] at this;obtain⟨b,tv,g,e,_⟩:=this;exact⟨_,e⟩
 obtain⟨F,rfl⟩:=aa;obtain⟨g,P⟩:∃g,g=x.fails:=⟨_,rfl⟩;obtain⟨f,M⟩:∃f,f=x.by_:=⟨_,rfl⟩;rw[<-P] at X C ⊢;rw[<-M] at R C ⊢;clear h D P M;unfold ptr;go_enter func148,ntmps148;go_upto_region 1 with fail;go_cut [3] from 4 (λv3 wz=>∃m v',v3=Px m/\w.heap.size<m/\Hid (wz.ownsRow (w.heap.size+1) 3 1 v' cl.length (cl.map λy=>cI y.1.1))/\Hid (Bx wz m 119 #[v',I g,.bool (f !=0),I 0])/\Hid (Below (w.heap.size+1) (w.alloc (.cells #[Zn,I 0,.bool false,I 0] 119)) wz))
 case first=>
  clear Y;have J:Hid ((w.alloc (.cells #[Zn,I 0,.bool false,I 0] 119)).heap.size=w.heap.size+1):=World.size_alloc ..;have am:w.heap.size+1≠p:=by omega
  have d1:(w.alloc (.cells #[Zn,I 0,.bool false,I 0] 119)).cell? ⟨p,1,none⟩=some (I g):=(C.out.mk _).cell (i:=1) rfl;have d2:(w.alloc (.cells #[Zn,I 0,.bool false,I 0] 119)).cell? ⟨p,2,none⟩=some (I f):=(C.out.mk _).cell (i:=2) rfl;go_region_held_law (λw'=>w'.cell? ⟨p,1,none⟩=some (I g)/\w'.cell? ⟨p,2,none⟩=some (I f)) (first|go_keep|(simp (maxDischargeDepth:=9) [*,World.cell?_alloc_some])) (first|(go_at_call 149;refine(HI.out _ (by (repeat (first|refine fX ?_|refine gT ?_));exact n_ _ _)).mono ?_;rintro e Q ⟨⟨v3,rfl,B⟩,q⟩;obtain⟨a3,k3,rfl⟩:=ag B;have x1:Q.cell? ⟨p,1,none⟩=some (I g):=ae q (ae (w:=w) (by (repeat (first|refine fX ?_|refine gT ?_));exact n_ _ _) X);have x2:Q.cell? ⟨p,2,none⟩=some (I f):=ae q (ae (w:=w) (by (repeat (first|refine fX ?_|refine gT ?_));exact n_ _ _) R);(try (have l:Bx Q (w.heap.size+1) 119 #[Zn,I 0,.bool false,I 0]:=xh q (by (repeat refine CS ?_);exact zK (by show w.heap.size+1=(w.alloc _).heap.size;exact(World.size_alloc ..).symm));have z0:=l.c 0 Zn;have z1:=l.c 1 (I 0);have z2:=l.c 2 (.bool false);have z3:=l.c 3 (I 0);have g0:=l.fr 0;have g1:=l.fr 1;have g2:=l.fr 2;have g3:=l.fr 3;have HZ:=cK l;clear l));have al:Q.heap.size≠p:=(by have:=aP x1;omega);have n:=cK B;have d:=cK q;clear B q)|(go_at_call 189;refine(ut p f _ (by first|exact x2|exact d2|exact ae (w:=Q) (by (repeat (first|refine fX ?_|refine gT ?_));exact n_ _ _) x2|exact ae (w:=w) (by (repeat (first|refine fX ?_|refine gT ?_));exact n_ _ _) R)).mono ?_;rintro e w4 ⟨rfl,rfl⟩))
  all_goals
   go_wp2_with fail;go_meet;obtain⟨E,hr⟩:=xj d.out n.out J.out (by repeat (first|exact n_ _ _|refine fX ?_|refine gT ?_));have aj:=E.size;have ac:=J.out
   first
    |(obtain⟨h1,h2,h3⟩:=nL E HZ.out (b_ _) hr (v0:=.slice a3 cl.length k3) (v1:=I g) (v2:=.bool (f !=0)) (v3:=I 0);exact⟨_,_,rfl,by omega,h3,h1,h2⟩)
    |exact⟨_,_,rfl,by omega,p_ hr _,Bx.new _ _ _,E.trans ((af _ _).mono (by omega))⟩
 obtain⟨m,v',rfl,ad,n,d,H⟩:=hcut;rename World=>wz;have l:=H.out;obtain⟨r,s,rfl⟩:=ag n.out;have z:Bl w wz:=(af w _).trans (l.mono (by omega));have e3:wz.cell? ⟨p,3,none⟩=some (.pointer F):=ae z Y;have a:Bx wz w.heap.size 119 #[Zn,I 0,.bool false,I 0]:=(l.block w.heap.size (by omega)).trans (Bx.new w _ _);have u:Hid (gJ wz S N (.pointer F) x.job):=HJ.out.kept (λk hk _=>z.block k hk) (λ_ h=>h) (b_ _);have o:Hid (Bx wz w.heap.size 119 #[Zn,I 0,.bool false,I 0]):=a;have G:Hid (Bl w wz):=z;have ab:w.heap.size≠m:=by omega
 have t0:=d.out.c 0 (.slice r cl.length s);have t1:=d.out.c 1 (I g);have t2:=d.out.c 2 (.bool (f !=0));have t3:=d.out.c 3 (I 0);have s0:=a.c 0 Zn;have s1:=a.c 1 (I 0);have s2:=a.c 2 (.bool false);have s3:=a.c 3 (I 0);have ft:=λi=>d.out.fr i;have fs:=λi=>a.fr i;clear X R Y C HS L HI HJ z l a H;cases ej:x.job with
 |none=>
  obtain rfl:F=none:=by
   have:=u.out;rw[ej] at this;injection this
  clear u;go_wp2_with fail;obtain⟨t,V,T⟩:=nL G.out o.out (b_ _) n.out (v0:=.slice r cl.length s) (v1:=I g) (v2:=.bool (f !=0)) (v3:=I 0);generalize (((wz.setCell ⟨w.heap.size,0,none⟩ (.slice r cl.length s)).setCell ⟨w.heap.size,1,none⟩ (I g)).setCell ⟨w.heap.size,2,none⟩ (.bool (f !=0))).setCell ⟨w.heap.size,3,none⟩ (I 0)=W at *;have Z:=t.c 0 (.slice r cl.length s);have e1:=t.c 1 (I g);have e2:=t.c 2 (.bool (f !=0));have e4:=t.c 3 (I 0);exact bodyPost_ret (v:=.agg #[.slice r cl.length s,I g,.bool (f !=0),I 0]) (by simp[results,results148,go_sem,Z,e1,e2,e4]) rfl ⟨⟨_,by rw[ej];rfl,cp T (by omega)⟩,V⟩
 |some j=>
  obtain⟨jb,jt,ak,A,hJ,-⟩:gJ wz S N (.pointer F) (some j):=ej▸u.out;injection A with A;subst A;have j0:=hJ.c 0 (I j.num)
  have U:Hid (∀num:Int,Bl w (wz.setCell ⟨m,3,none⟩ (I num))/\Bx (wz.setCell ⟨m,3,none⟩ (I num)) w.heap.size 119 #[Zn,I 0,.bool false,I 0]/\World.ownsRow (wz.setCell ⟨m,3,none⟩ (I num)) (w.heap.size+1) 3 1 (.slice r cl.length s) cl.length (cl.map λy=>cI y.1.1)):=by
   intro num;have O:ai wz (wz.setCell ⟨m,3,none⟩ (I num)) (λk=>k=m):=(ai.refl wz (λk=>k=m)).set (b:=m) (.inl rfl);have K:=aM.of_only (ts:=[119]) O λk e=>⟨119,by simp,by rw[e];exact d.out.ty⟩;refine⟨ao G.out (by omega) 3 _,(O.block _ o.out.lt (by omega)).trans o.out,K.row n.out (by decide)⟩
  clear u hJ;go_wp2_with fail;obtain⟨h1,h2,h3⟩:=U.out j.num;generalize wz.setCell ⟨m,3,none⟩ (I j.num)=wy at *;obtain⟨t,V,T⟩:=nL h1 h2 (b_ _) h3 (v0:=.slice r cl.length s) (v1:=I g) (v2:=.bool (f !=0)) (v3:=I j.num);generalize (((wy.setCell ⟨w.heap.size,0,none⟩ (.slice r cl.length s)).setCell ⟨w.heap.size,1,none⟩ (I g)).setCell ⟨w.heap.size,2,none⟩ (.bool (f !=0))).setCell ⟨w.heap.size,3,none⟩ (I j.num)=W at *;have Z:=t.c 0 (.slice r cl.length s);have e1:=t.c 1 (I g);have e2:=t.c 2 (.bool (f !=0));have e4:=t.c 3 (I j.num);exact bodyPost_ret (v:=.agg #[.slice r cl.length s,I g,.bool (f !=0),I j.num]) (by simp[results,results148,go_sem,Z,e1,e2,e4]) rfl ⟨⟨_,by rw[ej];rfl,cp T (by omega)⟩,V⟩
section
open Go.Shelf
variable{c:Cfg}{zs:List (Nat×Sm)}{gs:List Gv}{pre ps:List Nat}{q:List Pw}{tl:List Tp}{ts:List TypeId}{B b3 mb n0 sb yb:Nat}{s:Ts}{ov qv tv v:Value}{w' w5 w6:World}{x:Xt}
attribute [local go_sem] Oper.semAt_some
structure dq (base:Nat)(w:World)(v:Value)(gs:List Gv):Prop where
 row:w.ownsRow base 119 4 v gs.length (gs.flatMap cGv)
 ids:∀y∈gs,w.ownsRow base 3 1 y.2 y.1.1.length (y.1.1.map cI)
 ap:gs.Pairwise λa b=>∀g,a.2.ownBlock=some g->b.2.ownBlock≠some g
theorem dq.keptT (h:dq base w v gs)(K:aM w w' ts)(h1:119∉ts)(h2:3∉ts):dq base w' v gs:=
 ⟨K.row h.row h1,λy hy=>K.row (h.ids y hy) h2,h.ap⟩
def sB (w W:World)(b3:Nat)(zs:List (Nat×Sm))(pre:List Nat):Prop:=
 Bl w W/\∃v gs,Bx W b3 115 #[v]/\gs.map Prod.fst=pre.map (λp=>dj (jn zs p))/\dq w.heap.size W v gs
theorem sB.own (hB:w.heap.size<=B):OwnFrom B (λ(pre:List (Pt ps)) W=>sB w W b3 zs (pre.map Subtype.val)):=λs W W' row hs hg hr=>by
 obtain⟨c,v,a,d,e,b⟩:=hs
 have K:=aM.own hg λr e=>(hr r e).2
 exact⟨eH c (b_ _) hg (λr e=>(hr r e).1) hB,v,a,K.bx d (by decide),e,b.keptT K (by decide) (by decide)⟩
theorem qH {p' n5:Nat}{y:Sm}{r5 v6:Value}(hs:jn zs p'=y)(hc:cl.map Prod.fst=y.l)(HB:Bl w W)(HX:Bx W b3 115 #[v])(hb3:w.heap.size<=b3)(he:gs.map Prod.fst=pre.map (λp=>dj (jn zs p)))(HO:dq w.heap.size W v gs)(hb5:Bl W w5)(hr5:w5.ownsRow W.heap.size 3 1 r5 cl.length (cl.map λy=>cI y.1.1))(hr6:w6.ownsRow w.heap.size 119 4 v6 (gs.length+1) (gs.flatMap cGv++[r5,I y.fails,.bool (y.by_ !=0),I (cr y.job)]))(hg6:(w5.alloc o).grownBy w6 v.ownBlock)(htv:Sl W 210 1 tv n5 xs):
 KeepsFrom B W (w6.setCell ⟨b3,0,none⟩ v6)/\jD tv W (w6.setCell ⟨b3,0,none⟩ v6)/\sB w (w6.setCell ⟨b3,0,none⟩ v6) b3 zs (pre++[p']):=by
 have c:Bl W (w5.alloc o):=hb5.trans ((af _ _).mono hb5.size);have r:aM W (w5.alloc o) []:=aM.of_only (ai.of_below (S:=λ_=>False) c) λ_ h=>h.elim;have D:=r.row HO.row (by decide);have u:=ai.of_grown hg6 λ_ h=>h;have s:aM (w5.alloc o) w6 [119]:=aM.of_only u λk hk=>⟨_,by simp,aV D hk⟩;have n:=s.bx (r.bx HX (by decide)) (by decide);have x:ai w6 (w6.setCell ⟨b3,0,none⟩ v6) (λk=>k=b3):=(ai.refl w6 (λk=>k=b3)).set (b:=b3) (.inl rfl);have C:aM w6 (w6.setCell ⟨b3,0,none⟩ v6) [115]:=aM.of_only x λk hk=>⟨115,by simp,by rw[hk];exact n.ty⟩;have F:=c.size
 have a:∀{U:World} {k:Nat} {t:TypeId} {ob:Obj},cy U k t->t≠gI->U.heap[k]? =some ob->ob.isCells≠false:=λG hne hk hf=>by
  rcases G with ⟨H,G⟩|⟨e,_⟩
  ·rw[G] at hk;cases hk;cases hf
  exact hne e
 refine⟨⟨e_ F (e_ u.size x.size),λk ob _ hk hf=>?_⟩,λg hg=>?_,?_,v6,gs++[(dj y,r5)],n.set 0 v6,by rw[w_,w_,he,C_,List.map_nil,C_,List.map_nil,hs],?_,?_,?_⟩
 ·have E:=(j_.1 hk).1;have d:=(c.block k E).trans hk;have A:=(u.block k (by omega) λe=>a (aV D e) (by decide) d hf).trans d;exact(x.block k (j_.1 A).1 λe=>a (by rw[e];exact n.ty) (by decide) A hf).trans A
 ·have f:=r.sl htv (by decide);have m:=s.sl f (by decide);refine((x.block g (m.lt hg) λe=>?_).trans (u.block g (f.lt hg) λe=>?_)).trans (c.block g (htv.lt hg))
  ·exact absurd (n.ty.one (by rw[<-e];exact m.ty hg)) (by decide)
  exact absurd ((aV D e).one (f.ty hg)) (by decide)
 ·have d:=HB.trans (c.mono HB.size);exact ao (d.grown hg6 d.size λj hj=>(f_ HO.row j hj).1) hb3 0 v6
 ·rw[a_,r_];exact C.row hr6 (by decide)
 ·intro z i;rcases E_.1 i with i|i
  ·exact C.row (s.row (r.row (HO.ids z i) (by decide)) (by decide)) (by decide)
  obtain rfl:=o_.1 i
  have d:w5.ownsRow w.heap.size 3 1 r5 (y.l.map Prod.fst).length ((y.l.map Prod.fst).map cI):=by
   rw[<-hc,y_,y_,d_];exact cp hr5 HB.size
  exact C.row (s.row (p_ d o) (by decide)) (by decide)
 rw[List.pairwise_append];refine⟨HO.ap,by simp,λz i z' hz' q hq e=>?_⟩;obtain rfl:=o_.1 hz';have d:=(f_ (HO.ids z i) q hq).2;have A:=(f_ hr5 q e).1;omega
theorem uu (HX:Bx W b3 115 #[v])(HR:W.ownsRow base 119 4 v n xs)(hb5:Bl W w5)(hg6:(w5.alloc o).grownBy w6 v.ownBlock):Bx w6 b3 115 #[v]:=by
 have a:Bl W (w5.alloc o):=hb5.trans ((af _ _).mono hb5.size);have b:aM W (w5.alloc o) []:=aM.of_only (ai.of_below (S:=λ_=>False) a) λ_ h=>h.elim;have c:aM (w5.alloc o) w6 [119]:=aM.of_only (ai.of_grown (S:=λk=>v.ownBlock=some k) hg6 λ_ h=>h) λk hk=>⟨_,by simp,aV (b.row HR (by decide)) hk⟩;exact c.bx (b.bx HX (by decide)) (by decide)
set_option linter.unusedSimpArgs false in
theorem CT (h:aU w S yb mb n0 c s q sb qv ov x tl zs)(hl:zs.length<=8)(hn:∀z∈zs,z.2.l.length<=8):
 Calls prog 106 #[Px yb] w λe w'=>(∃v gs,e=.returned v/\gs.map Prod.fst=s.segs.map dj/\dq w.heap.size w' v gs)/\Bl w w':=by
 obtain⟨i0,hi,ah,aj,ak⟩:=info_parts sq
 obtain⟨A,a,R⟩:=h.rest.train.row.form
 have Q:Bl w (w.alloc (.cells #[Zn] 115)):=af _ _
 have h1:=h.later Q
 have az:(w.alloc (.cells #[Zn] 115)).cell? ⟨yb,11,none⟩=some (.slice A zs.length a):=by rw[<-R];exact h1.is.box.cell (i:=11) rfl
 have ar:(zs.map Prod.fst).length=zs.length:=List.length_map _
 have U:Hid (Sl (w.alloc (.cells #[Zn] 115)) 210 1 (.slice A zs.length a) zs.length ((zs.map Prod.fst).map ptr)):=by
  have:=h1.rest.train.row
  rw[R] at this
  show Sl _ _ _ _ _ _
  rw[List.map_map]
  exact this
 have ay:Hid (Sl w 210 1 (.slice A zs.length a) zs.length ((zs.map Prod.fst).map ptr)):=by
  have:=h.rest.train.row
  rw[R] at this
  show Sl _ _ _ _ _ _
  rw[List.map_map]
  exact this
 have Z:Hid (∀z∈zs,dt w S (s.top n0) z):=h.rest.train.segs
 have al:Hid ((zs.map Prod.fst).Nodup):=h.rest.train.nd
 have am:Hid (zs.map Prod.snd=s.segs):=h.rest.train.snd
 have HN:=hd hn
 have ab:Hid ((w.alloc (.cells #[Zn] 115)).heap.size=w.heap.size+1):=World.size_alloc ..
 have HT:Hid (sB w ((w.alloc (.cells #[Zn] 115)).alloc (.cells #[.slice A zs.length a] 195)) w.heap.size zs []):=
  ⟨Q.trans ((af _ _).mono Q.size),Zn,[],(Bx.new _ _ _).mk _,rfl,⟨World.ownsRow_nil _ _ _ _,by simp,List.Pairwise.nil⟩⟩
 clear h h1 R hn Q
 refine(callsIn_wide (n:=3)).1 ?_
 refine callsIn_of_wp_marks func106 rfl trivial ?_ rfl
 simp only[ntmps106,List.size_toArray,List.length_cons,List.length_nil,Nat.reduceAdd,Nat.reduceSub,Array.replicate_succ,Array.replicate_zero,List.push_toArray,List.append_toArray,List.nil_append,List.cons_append]
 gi_upto_region 2 with fail
 generalize w.alloc (.cells #[Zn] 115)=J at *
 have P:Hid (Bl J (J.alloc (.cells #[.slice A zs.length a] 195))):=af _ _
 gi_wp2_with (refine⟨trivial,?_⟩;gi_at_call 147;refine(callsIn_wide.2 (im yb A zs.length a J az)).mono ?_;rintro e w' ⟨rfl,rfl⟩)
 refine wpIn_rangeFunc_ownG (α:=Pt (zs.map Prod.fst)) (n:=3) (F:=Fence.wide) rfl (by decide) (gf:=223) (lb:=#[Px J.heap.size]) rfl trivial (enters_of func223 (by kernel_rfl) rfl)
  (fR Fence.wide 2 trivial rfl (by decide) J.heap.size (.slice A zs.length a) (zs.map Prod.fst) (by rw[ar];omega) (J.alloc (.cells #[.slice A zs.length a] 195)) (by simp) (by simp) (by rw[ar];exact U.out.mk _)) iP (jC λg hg=>Nat.lt_of_lt_of_le (U.out.lt hg) P.out.size) (Below.refl _ _) (λ_=>rfl)
  (λT W=>sB w W w.heap.size zs (T.map Subtype.val)) (λ_ _ _=>False) (sB.own (by have:=P.out.size;have:=ab.out;omega)) (λ_ _ _ _ _ hs _ _=>hs) HT.out
  (λy=>{tmps:=#[Px yb,undef,Zn,Px w.heap.size,Px y.1,Px yb,Px yb,.pointer (some ⟨yb,11,none⟩),.func (.func 223) #[] #[Px J.heap.size],Px y.1,undef,undef,undef,undef,undef,undef],defers:=[]}) ?assign ?body ?done ?stop
 case assign=>
  intro l y W K b
  unfold ptr
  gi_wp2
  exact b
 case body=>
  rintro l T ⟨p,hp⟩ W hE X
  obtain⟨⟨p',y⟩,hz,rfl⟩:=List.mem_map.1 hp
  obtain⟨hb,v,gs,hx,he,hO⟩:=hE
  obtain⟨C,E,rfl⟩:=ag hO.row
  obtain⟨cv,jv,cl,H⟩:=(Z.out (p',y) hz).kept (w':=W.drew) (λk hk _=>hb.block k hk) (λ_ h=>h) (Nat.le_refl _)
  have aB:cl.length=y.l.length:=mg H.chs
  have hT:=Bq H (by have:=HN.out _ hz;simp only at this;omega)
  unfold ptr at hT
  have ax:Bx W.drew w.heap.size 115 #[.slice C gs.length E]:=hx
  have l0:=ax.c 0 (.slice C gs.length E)
  have aC:gs.length<=8:=by
   have:=congrArg List.length he
   simp only[List.length_map] at this X
   omega
  have Y:Hid (cl.map Prod.fst=y.l):=H.chs.fst
  have aa:Hid (jn zs p'=y):=dZ al.out hz
  have ac:Hid (Sl W 210 1 (.slice A zs.length a) zs.length ((zs.map Prod.fst).map ptr)):=ay.out.later hb
  have q1:Hid (gs.length+1<=maxLen):=by show _<=_;unfold maxLen;omega
  have q3:Hid ((gs.length+1)*48<=140737488355328):=by show _<=_;omega
  have HE:=hd he
  have M:=hd hO
  have HX:=hd hx
  have HB:=hd hb
  clear H aB he hO hx hb X ax
  refine kT (λW'=>KeepsFrom (J.alloc (.cells #[.slice A zs.length a] 195)).heap.size W W'/\jD (.slice A zs.length a) W W'/\sB w W' w.heap.size zs ((T++[(⟨p',hp⟩:Pt (zs.map Prod.fst))]).map Subtype.val)) (λ_ _ h=>h) ?_
  refine wpIn_block (fp (S:=λ_=>True) rfl rfl (λ⟨_,_,h⟩=>by cases h.1) trivial (λ_=>?_))
  refine tk 1 ?_
  refine wpAnyH_ready (rs:=[0,2]) (by kernel_rfl) (by simp) ?_
  refine AllReadyH.cons rfl (λK b=>?_) (AllReadyH.cons rfl (λK b=>?_) AllReadyH.nil)
  ·go_simp
   refine b.out _ _ trivial (λ_=>?_)
   clear b K
   refine wpAnyH_ready (rs:=[2]) (by kernel_rfl) (by simp) ?_
   refine AllReadyH.cons rfl (λK b=>?_) AllReadyH.nil
   go_simp
   go_wp2_with (go_at_call 148;refine hT.mono ?_;rintro e r ⟨⟨v5,rfl,u⟩,t⟩;obtain⟨a5,k5,rfl⟩:=ag u;have l5:r.cell? ⟨w.heap.size,0,none⟩=some (.slice C gs.length E):=ae t l0;have l6:∀o,(r.alloc o).cell? ⟨w.heap.size,0,none⟩=some (.slice C gs.length E):=(λo=>ae (af r o) l5);have N:=cK u;have d:=cK t;clear u t)
   refine b.out _ _ trivial (λ_=>?_)
   clear b K
   refine wpAnyH_ready (rs:=[3]) (by kernel_rfl) (by simp) ?_
   refine AllReadyH.cons rfl (λK b=>?_) AllReadyH.nil
   go_simp
   refine b.out _ _ trivial (λ_=>?_)
   clear b K
   refine wpAnyH_ready (rs:=[4]) (by kernel_rfl) (by simp) ?_
   refine AllReadyH.cons rfl (λK b=>?_) AllReadyH.nil
   have G:=cK (show Bl W r from ⟨d.out.os,d.out.tape,d.out.output,d.out.size,d.out.block⟩)
   refine aT rfl _ _ 115 rfl w.heap.size _ i0 _ 4 48 underlying115 hi ah aj ak rfl (by decide) (.slice C gs.length E) _ _ rfl (World.ownsRow.alloc ((aM.of_only (ts:=[]) (ai.of_below (S:=λ_=>False) G.out) λ_ h=>h.elim).row M.out.row (by decide)) _) ⟨r.heap.size,0,none⟩ 1 1 [.slice a5 cl.length k5,I y.fails,.bool (y.by_ !=0),I (cr y.job)] rfl rfl (au r _ _) (by simp[Value.oneCell']) q1.out q3.out (Nat.le_trans HB.out.size (Nat.le_trans G.out.size (af _ _).size)) ?_
   rintro v6 w6 j f -
   refine b.out _ _ trivial (λ_=>?_)
   clear b K
   obtain⟨a6,k6,rfl⟩:=ag j
   have L:=cK (qH (B:=(J.alloc (.cells #[.slice A zs.length a] 195)).heap.size) aa.out Y.out HB.out HX.out (Nat.le_refl _) HE.out M.out G.out N.out j f ac.out)
   have m:=cK (uu HX.out M.out.row G.out f)
   have m6:=m.out.cell (i:=0) rfl
   have f6:=m.out.fr 0
   clear j f
   refine wpAnyH_ready (rs:=[5]) (by kernel_rfl) (by simp) ?_
   refine AllReadyH.cons rfl (λK b=>?_) AllReadyH.nil
   go_simp
   refine b.out _ _ trivial (λ_=>?_)
   clear b K
   refine wpAnyH_done (by kernel_rfl) ?_ _
   refine⟨rfl,?_⟩
   rw[List.map_append]
   exact L.out
  go_simp
  go_wp2_with (go_at_call 148;refine hT.mono ?_;rintro e r ⟨⟨v5,rfl,u⟩,t⟩;obtain⟨a5,k5,rfl⟩:=ag u;have l5:r.cell? ⟨w.heap.size,0,none⟩=some (.slice C gs.length E):=ae t l0;have l6:∀o,(r.alloc o).cell? ⟨w.heap.size,0,none⟩=some (.slice C gs.length E):=(λo=>ae (af r o) l5);have N:=cK u;have d:=cK t;clear u t)
  refine b.out _ _ trivial (λ_=>?_)
  clear b K
  refine wpAnyH_ready (rs:=[0,3]) (by kernel_rfl) (by simp) ?_
  refine AllReadyH.cons rfl (λK b=>?_) (AllReadyH.cons rfl (λK b=>?_) AllReadyH.nil)
  ·go_simp
   refine b.out _ _ trivial (λ_=>?_)
   clear b K
   refine wpAnyH_ready (rs:=[3]) (by kernel_rfl) (by simp) ?_
   refine AllReadyH.cons rfl (λK b=>?_) AllReadyH.nil
   go_simp
   refine b.out _ _ trivial (λ_=>?_)
   clear b K
   refine wpAnyH_ready (rs:=[4]) (by kernel_rfl) (by simp) ?_
   refine AllReadyH.cons rfl (λK b=>?_) AllReadyH.nil
   have G:=cK (show Bl W r from ⟨d.out.os,d.out.tape,d.out.output,d.out.size,d.out.block⟩)
   refine aT rfl _ _ 115 rfl w.heap.size _ i0 _ 4 48 underlying115 hi ah aj ak rfl (by decide) (.slice C gs.length E) _ _ rfl (World.ownsRow.alloc ((aM.of_only (ts:=[]) (ai.of_below (S:=λ_=>False) G.out) λ_ h=>h.elim).row M.out.row (by decide)) _) ⟨r.heap.size,0,none⟩ 1 1 [.slice a5 cl.length k5,I y.fails,.bool (y.by_ !=0),I (cr y.job)] rfl rfl (au r _ _) (by simp[Value.oneCell']) q1.out q3.out (Nat.le_trans HB.out.size (Nat.le_trans G.out.size (af _ _).size)) ?_
   rintro v6 w6 j f -
   refine b.out _ _ trivial (λ_=>?_)
   clear b K
   obtain⟨a6,k6,rfl⟩:=ag j
   have L:=cK (qH (B:=(J.alloc (.cells #[.slice A zs.length a] 195)).heap.size) aa.out Y.out HB.out HX.out (Nat.le_refl _) HE.out M.out G.out N.out j f ac.out)
   have m:=cK (uu HX.out M.out.row G.out f)
   have m6:=m.out.cell (i:=0) rfl
   have f6:=m.out.fr 0
   clear j f
   refine wpAnyH_ready (rs:=[5]) (by kernel_rfl) (by simp) ?_
   refine AllReadyH.cons rfl (λK b=>?_) AllReadyH.nil
   go_simp
   refine b.out _ _ trivial (λ_=>?_)
   clear b K
   refine wpAnyH_done (by kernel_rfl) ?_ _
   refine⟨rfl,?_⟩
   rw[List.map_append]
   exact L.out
  go_simp
  refine b.out _ _ trivial (λ_=>?_)
  clear b K
  refine wpAnyH_ready (rs:=[0]) (by kernel_rfl) (by simp) ?_
  refine AllReadyH.cons rfl (λK b=>?_) AllReadyH.nil
  go_simp
  refine b.out _ _ trivial (λ_=>?_)
  clear b K
  refine wpAnyH_ready (rs:=[4]) (by kernel_rfl) (by simp) ?_
  refine AllReadyH.cons rfl (λK b=>?_) AllReadyH.nil
  have G:=cK (show Bl W r from ⟨d.out.os,d.out.tape,d.out.output,d.out.size,d.out.block⟩)
  refine aT rfl _ _ 115 rfl w.heap.size _ i0 _ 4 48 underlying115 hi ah aj ak rfl (by decide) (.slice C gs.length E) _ _ rfl (World.ownsRow.alloc ((aM.of_only (ts:=[]) (ai.of_below (S:=λ_=>False) G.out) λ_ h=>h.elim).row M.out.row (by decide)) _) ⟨r.heap.size,0,none⟩ 1 1 [.slice a5 cl.length k5,I y.fails,.bool (y.by_ !=0),I (cr y.job)] rfl rfl (au r _ _) (by simp[Value.oneCell']) q1.out q3.out (Nat.le_trans HB.out.size (Nat.le_trans G.out.size (af _ _).size)) ?_
  rintro v6 w6 j f -
  refine b.out _ _ trivial (λ_=>?_)
  clear b K
  obtain⟨a6,k6,rfl⟩:=ag j
  have L:=cK (qH (B:=(J.alloc (.cells #[.slice A zs.length a] 195)).heap.size) aa.out Y.out HB.out HX.out (Nat.le_refl _) HE.out M.out G.out N.out j f ac.out)
  have m:=cK (uu HX.out M.out.row G.out f)
  have m6:=m.out.cell (i:=0) rfl
  have f6:=m.out.fr 0
  clear j f
  refine wpAnyH_ready (rs:=[5]) (by kernel_rfl) (by simp) ?_
  refine AllReadyH.cons rfl (λK b=>?_) AllReadyH.nil
  go_simp
  refine b.out _ _ trivial (λ_=>?_)
  clear b K
  refine wpAnyH_done (by kernel_rfl) ?_ _
  refine⟨rfl,?_⟩
  rw[List.map_append]
  exact L.out
 case done=>
  rintro D ys W hD rfl hE b
  have aA:=(sB.own (ps:=zs.map Prod.fst) (b3:=w.heap.size) (zs:=zs) (w:=w) (B:=(J.alloc (.cells #[.slice A zs.length a] 195)).heap.size) (by have:=P.out.size;have:=ab.out;omega)).putObj (.deferred none) hE hD b rfl
  obtain⟨v,gs,hx,-,hO⟩:=hE.2
  obtain⟨C,E,rfl⟩:=ag hO.row
  have m0:=hx.c 0 (.slice C gs.length E)
  obtain⟨ap,v2,an,aw,ad,ao⟩:=aA
  have av:v2=.slice C gs.length E:=by
   have h1:(W.putObj D (.deferred none)).heap[w.heap.size]? =W.heap[w.heap.size]? :=World.putObj_heap_other (by have:=P.out.size;have:=ab.out;omega)
   have V:(W.putObj D (.deferred none)).heap[w.heap.size]? =some (.cells #[v2] 115):=aw
   have h3:W.heap[w.heap.size]? =some (.cells #[.slice C gs.length E] 115):=hx
   rw[h1,h3] at V
   injection V with V
   injection V with V
   simpa using V.symm
  rw[List.attach_map_subtype_val,List.map_map] at ad
  have aq:an.map Prod.fst=s.segs.map dj:=by
   rw[ad,<-am.out,List.map_map]
   refine List.map_congr_left λz hz=>?_
   show dj (jn zs z.1)=dj z.2
   rw[dZ al.out hz]
  have HF:=cK (show ((∃v O,v=.slice C gs.length E/\O.map Prod.fst=s.segs.map dj/\dq w.heap.size (W.putObj D (.deferred none)) v O)/\Bl w (W.putObj D (.deferred none))) from ⟨⟨v2,an,av,aq,ao⟩,ap⟩)
  clear hE hx hO aw ad ao aq ap av
  gi_wp2
  refine⟨by simp,.inl ⟨_,_,rfl,run_takeDeferred b,?_⟩⟩
  obtain⟨⟨v',O,rfl,h1,V⟩,h3⟩:=HF.out
  exact⟨.slice C gs.length E,by simp[results,results106,go_sem],⟨_,O,rfl,h1,V⟩,h3⟩
 rintro D c T W _ _ h _
 exact h.elim
end
end
section
open Go.Shelf
variable{g:ByteArray->ByteArray}{zs:List (Nat×Sm)}{js:List Jv}{al ps:List Nat}{ol:List Oper}{xs:List Value}{B N b3 b4 base id n num:Nat}{S:Nat->Prop}{o:Obj}{P:Program}{tv u v v':Value}{W W' w w' w10 w5 w6:World}
structure cj (base N:Nat)(w:World)(v:Value)(js:List Jv):Prop where
 row:w.ownsRow base 124 4 v js.length (js.flatMap cJv)
 ids:∀y∈js,w.ownsRow base 3 1 y.2.1 y.1.2.2.1.length (y.1.2.2.1.map cI)
 tree:∀y∈js,∃fl:List Fl,w.ownsRow base 80 2 y.2.2 fl.length (fl.flatMap cF)/\fE fl y.1.2.2.2/\fl.length<=N
 ap:js.Pairwise λa b=>(∀g,a.2.1.ownBlock=some g->b.2.1.ownBlock≠some g)/\∀g,a.2.2.ownBlock=some g->b.2.2.ownBlock≠some g
theorem cj.kept (h:cj base N w v js)(hk:∀k,(v.ownBlock=some k\/∃y∈js,y.2.1.ownBlock=some k\/y.2.2.ownBlock=some k)->w'.heap[k]? =w.heap[k]?):cj base N w' v js:=
 ⟨aN h.row λg hg=>hk g (.inl hg),λy hy=>aN (h.ids y hy) λg hg=>hk g (.inr ⟨y,hy,.inl hg⟩),λy hy=>by
  obtain⟨a,b,c⟩:=h.tree y hy
  exact⟨a,aN b λg hg=>hk g (.inr ⟨y,hy,.inr hg⟩),c⟩,h.ap⟩
theorem cj.lt (h:cj base N w v js){k:Nat}(hk:v.ownBlock=some k\/∃y∈js,y.2.1.ownBlock=some k\/y.2.2.ownBlock=some k):k<w.heap.size/\(cy w k 124\/cy w k 3\/cy w k 80):=by
 rcases hk with hk|⟨y,a,hk|hk⟩
 ·exact⟨(f_ h.row k hk).2,.inl (aV h.row hk)⟩
 ·exact⟨(f_ (h.ids y a) k hk).2,.inr (.inl (aV (h.ids y a) hk))⟩
 obtain⟨c,b,_⟩:=h.tree y a;exact⟨(f_ b k hk).2,.inr (.inr (aV b hk))⟩
structure lo (w W:World)(b3 b4 N:Nat)(v:Value)(js:List Jv)(u:Value)(al:List Nat):Prop where
 b:Bl w W
 x3:Bx W b3 120 #[v]
 x4:Bx W b4 56 #[u]
 out:cj w.heap.size N W v js
 ids:W.ownsRow w.heap.size 3 1 u al.length (al.map cI)
 ap:∀y∈js,∀g,y.2.1.ownBlock=some g->u.ownBlock≠some g
theorem lo.keptT (h:lo w W b3 b4 N v js u al)(hb:Bl w W'){ts:List TypeId}(K:aM W W' ts)(h1:120∉ts)(h2:56∉ts)(h3:124∉ts)(h4:3∉ts)(h5:80∉ts):lo w W' b3 b4 N v js u al:=
 ⟨hb,K.bx h.x3 h1,K.bx h.x4 h2,h.out.kept λk hk=>by
  rcases (h.out.lt hk).2 with a|a|a
  ·exact K.same _ _ a h3
  ·exact K.same _ _ a h4
  exact K.same _ _ a h5,K.row h.ids h4,h.ap⟩
theorem dL (h:Bl W W'):aM W W' []:=aM.of_only (ai.of_below (S:=λ_=>False) h) λ_ h=>h.elim
theorem lo.later (h:lo w W b3 b4 N v js u al)(hb:Bl W W'):lo w W' b3 b4 N v js u al:=
 h.keptT (h.b.trans (hb.mono h.b.size)) (dL hb) (by decide) (by decide) (by decide) (by decide) (by decide)
theorem nM (hO:ai W W' S)(hS:∀k,S k->∃t,cy W k t/\t≠gI/\t≠210)(htv:Sl W 210 1 tv n xs):KeepsFrom B W W'/\jD tv W W':=by
 refine⟨⟨hO.size,λk ob _ hk hf=>(hO.block k (j_.1 hk).1 λe=>?_).trans hk⟩,λg hg=>hO.block g (htv.lt hg) λe=>?_⟩
 ·obtain⟨t,b,a,_⟩:=hS k e;rcases b with ⟨c,b⟩|⟨e,_⟩
  ·rw[b] at hk;cases hk;cases hf
  exact a e
 obtain⟨t,b,_,a⟩:=hS g e;exact a (b.one (htv.ty hg))
theorem CV {u':Value}{al':List Nat}(h:lo w W b3 b4 N v js u al)(hb4:w.heap.size<=b4)(hb5:Bl W w5)(hr6:w6.ownsRow w.heap.size 3 1 u' al'.length (al'.map cI))(hg6:w5.grownBy w6 u.ownBlock)(hu:u'.ownBlock=u.ownBlock\/u'.ownBlock=some w5.heap.size):
 lo w (w6.setCell ⟨b4,0,none⟩ u') b3 b4 N v js u' al'/\ai W (w6.setCell ⟨b4,0,none⟩ u') (λk=>u.ownBlock=some k\/k=b4)/\Bx w6 b4 56 #[u]:=by
 have c:=h.later hb5;have m:=ai.of_grown hg6 λ_ h=>h;have n:aM w5 w6 [3]:=aM.of_only m λk a=>⟨_,by simp,aV c.ids a⟩;have l:=n.bx c.x4 (by decide);have o:ai w6 (w6.setCell ⟨b4,0,none⟩ u') (λk=>k=b4):=(ai.refl w6 (λk=>k=b4)).set (b:=b4) (.inl rfl);have d:aM w6 (w6.setCell ⟨b4,0,none⟩ u') [56]:=aM.of_only o λk a=>⟨56,by simp,by rw[a];exact l.ty⟩
 have p:cj w.heap.size N w6 v js:=c.out.kept λk a=>m.block k (c.out.lt a).1 λe=>by
  rcases a with a|⟨y,i,a|a⟩
  ·exact absurd ((aV c.out.row a).one (aV c.ids e)) (by decide)
  ·exact c.ap y i k a e
  obtain⟨r,q,_⟩:=c.out.tree y i;exact absurd ((aV q a).one (aV c.ids e)) (by decide)
 refine⟨⟨?_,d.bx (n.bx c.x3 (by decide)) (by decide),l.set 0 u',p.kept λk a=>?_,d.row hr6 (by decide),λy i g hg e=>?_⟩,?_,l⟩
 ·exact ao (c.b.grown hg6 c.b.size λj hj=>(f_ h.ids j hj).1) hb4 0 u'
 ·rcases (p.lt a).2 with f|f|f
  ·exact d.same _ _ f (by decide)
  ·exact d.same _ _ f (by decide)
  exact d.same _ _ f (by decide)
 ·rcases hu with hu|hu
  ·exact h.ap y i g hg (by rw[<-hu];exact e)
  rw[hu] at e;cases e
  have:=(f_ (c.out.ids y i) _ hg).2;omega
 exact((ai.of_below hb5).trans (m.mono λk a=>.inl a) λ_ h=>.inl h).trans (o.mono λk a=>.inr a) λ_ h=>.inl h
theorem CW {X:World}{r8 r9:Value}{til:Nat}{fl:List Fl}(h:lo w W b3 b4 N v js u al)(hb3:w.heap.size<=b3)(hX:Bl W X)(h8:X.ownsRow W.heap.size 3 1 r8 al.length (al.map cI))(h9:X.ownsRow W.heap.size 80 2 r9 fl.length (fl.flatMap cF))(hT:fE fl g)(hN:fl.length<=N)(hr:w10.ownsRow w.heap.size 124 4 v' (js.length+1) (js.flatMap cJv++[I num,I til,r8,r9]))(hg:(X.alloc o).grownBy w10 v.ownBlock):
 lo w (w10.setCell ⟨b3,0,none⟩ v') b3 b4 N v' (js++[((num,til,al,g),r8,r9)]) u al/\ai W (w10.setCell ⟨b3,0,none⟩ v') (λk=>v.ownBlock=some k\/k=b3)/\Bx w10 b3 120 #[v]:=by
 have l:Bl W (X.alloc o):=hX.trans ((af _ _).mono hX.size);have c:=h.later l;have t:=ai.of_grown hg λ_ h=>h;have d:aM (X.alloc o) w10 [124]:=aM.of_only t λk hk=>⟨_,by simp,aV c.out.row hk⟩;have p:=d.bx c.x3 (by decide);have x:ai w10 (w10.setCell ⟨b3,0,none⟩ v') (λk=>k=b3):=(ai.refl w10 (λk=>k=b3)).set (b:=b3) (.inl rfl);have i:aM w10 (w10.setCell ⟨b3,0,none⟩ v') [120]:=aM.of_only x λk hk=>⟨120,by simp,by rw[hk];exact p.ty⟩;have r:=i.row (d.row (p_ (cp h8 h.b.size) o) (by decide)) (by decide);have s:=i.row (d.row (p_ (cp h9 h.b.size) o) (by decide)) (by decide);refine⟨⟨?_,p.set 0 v',i.bx (d.bx c.x4 (by decide)) (by decide),⟨?_,λy a=>?_,λy a=>?_,?_⟩,i.row (d.row c.ids (by decide)) (by decide),λy a q hq=>?_⟩,?_,p⟩
 ·exact ao (c.b.grown hg c.b.size λj hj=>(f_ h.out.row j hj).1) hb3 0 v'
 ·rw[a_,r_];exact i.row hr (by decide)
 ·rcases E_.1 a with a|a
  ·exact i.row (d.row (c.out.ids y a) (by decide)) (by decide)
  obtain rfl:=o_.1 a;exact r
 ·rcases E_.1 a with a|a
  ·obtain⟨f,m,n⟩:=c.out.tree y a;exact⟨f,i.row (d.row m (by decide)) (by decide),n⟩
  obtain rfl:=o_.1 a;exact⟨fl,s,hT,hN⟩
 ·rw[List.pairwise_append];refine⟨h.out.ap,by simp,λz hz z' hz'=>?_⟩;obtain rfl:=o_.1 hz';refine⟨λq hq e=>?_,λq hq e=>?_⟩
  ·have m:=(f_ (h.out.ids z hz) q hq).2;have n:=(f_ h8 q e).1;omega
  obtain⟨f,A,_⟩:=h.out.tree z hz;have m:=(f_ A q hq).2;have n:=(f_ h9 q e).1;omega
 ·rcases E_.1 a with a|a
  ·exact h.ap y a q hq
  obtain rfl:=o_.1 a;intro e;have m:=(f_ h.ids q e).2;have n:=(f_ h8 q hq).1;omega
 exact((ai.of_below l).trans (t.mono λk hk=>.inl hk) λ_ h=>.inl h).trans (x.mono λk hk=>.inr hk) λ_ h=>.inl h
def xm (w W:World)(b3 b4 N:Nat)(zs:List (Nat×Sm))(pre:List Nat):Prop:=∃v js u,lo w W b3 b4 N v js u (gQ (pre.map (jn zs)))/\js.map Prod.fst=bR (pre.map (jn zs)) []
theorem xm.own (hB:w.heap.size<=B):OwnFrom B (λ(pre:List (Pt ps)) W=>xm w W b3 b4 N zs (pre.map Subtype.val)):=λs W W' row hs hg hr=>by
 obtain⟨v,a,u,h,e⟩:=hs
 exact⟨v,a,u,h.keptT (eH h.b (b_ _) hg (λr e=>(hr r e).1) hB) (aM.own hg λr e=>(hr r e).2) (by decide) (by decide) (by decide) (by decide) (by decide),e⟩
def BQ (l:List Oper)(L:Nat):Bool:=l.length==L+1&&((List.range l.length).all λi=>match l[i]? with|some o=>o.after.toList.all λe=>decide (e.on<i)|none=>true)&&(match l[L]? with|some st=>(List.range L).all λj=>st.after.toList.any λe=>Region.binds .any e&&e.on==j|none=>false)
theorem iD {l:Nat}(ops':Array Oper)(L:Nat)(st:Oper){Q:Exit->Act->World->Prop}{S:World->Prop}{a:Act}{w:World}(hm:P.follows .mixedOrders=true)(hdf:j9 ol=true)(hL:¬LetsOut Q)(h1:ol.toArray[L]? =some st)(hd:st.dst=none)(hg:st.guard=none)(hB:BQ ol L=true)(he:ops'=ol.toArray.setIfInBounds L (nop st))(hS:S w.drew)(h:S w.drew->wpAnyH P .any ops' (kQ P st Q) S ops'.size (Array.replicate ops'.size false) a w.drew):(Code.region id ol.toArray true).wpIn (Fence.wide.inRound l) n P Q a w:=by
 have c:ol[L]? =some st:=by rw[List.getElem?_toArray] at h1;exact h1
 simp only[BQ,Bool.and_eq_true,beq_iff_eq,List.all_eq_true,c,List.any_eq_true,List.mem_range] at hB;obtain⟨⟨f,d⟩,m⟩:=hB;refine lP ops' L st hm hdf hL h1 hd hg (by simpa using f) (λi o e b hm=>?_) (λ_=>L) (λj hj=>⟨hj,b_ _,st,h1,?_⟩) he hS h
 ·rw[List.getElem?_toArray] at b;have g:=d i (N_.1 b).1;rw[b] at g;have:=g;simp only[List.all_eq_true,decide_eq_true_eq] at this;exact this e (by simpa using hm)
 obtain⟨e,hm,k,b⟩:=m j hj;exact⟨e,by simpa using hm,k,b⟩
end
section
open Go.Shelf
variable{js js':List Jv}{al:List Nat}{N b3 b4 base:Nat}{o o':Obj}{u v:Value}{W w w' w2:World}
theorem CX (js:List Jv)(h:∀y∈js,bD y.2.1/\bD y.2.2):∃l:List Js,l.map Subtype.val=js:=⟨js.attach.map λy=>⟨y.1,h y.1 y.2⟩,by rw[y_];exact List.attach_map_subtype_val js⟩
theorem qJ:∀l:List Js,l.flatMap cJs=(l.map Subtype.val).flatMap cJv
 |[]=>rfl
 |y::l=>by rw[F_,C_,F_,qJ l];rfl
theorem xn (js:List Jv)(v:Value)(base:Nat)(w:World)(hrow:w.ownsRow base 124 4 v js.length (js.flatMap cJv))(h:∀y∈js,bD y.2.1/\bD y.2.2)(hn:js.length<8796093022208):
 c_ 151 #[v,.func (.func 152) #[] #[]] w λe w'=>
  e=.returned (.tuple #[])/\(∃js':List Jv,js'.Perm js/\js'.Pairwise (λa b=>¬b.1.1<a.1.1)/\w'.ownsRow base 124 4 v js'.length (js'.flatMap cJv))/\w.grownBy w' v.ownBlock:=by
 rcases hrow.2 with ⟨j,q⟩|⟨g,d,p,j,_⟩
 ·subst j;obtain rfl:js=[]:=I_ q;refine(CU _ w).mono ?_;rintro e w' ⟨rfl,rfl⟩;exact⟨rfl,⟨[],List.Perm.refl _,List.Pairwise.nil,hrow⟩,⟨rfl,rfl,rfl,b_ _,λ_ _ _=>rfl⟩⟩
 subst j;obtain⟨l,f⟩:=CX js h;have c:l.length=js.length:=by rw[<-f,d_]
 have i:w.ownsRow base 124 4 (s_ g 0 l.length d) l.length (l.flatMap cJs):=by rw[qJ,f,c];exact hrow
 have k:=zN l g d base w i (by omega);rw[c] at k;refine k.mono ?_;rintro e w' ⟨rfl,⟨o,m,t,n⟩,s⟩;refine⟨rfl,⟨o.map Subtype.val,by rw[<-f];exact m.map _,List.pairwise_map.2 t,?_⟩,s⟩;have r:o.length=js.length:=by rw[m.length_eq,c]
 rw[d_,<-qJ];rw[r] at n ⊢;exact n
theorem cj.sorted (h:cj base N w v js)(hp:js'.Perm js)(hr:w'.ownsRow base 124 4 v js'.length (js'.flatMap cJv))(hg:w.grownBy w' v.ownBlock):cj base N w' v js'/\aM w w' [124]:=by
 have K:aM w w' [124]:=aM.of_only (ai.of_grown (S:=λk=>v.ownBlock=some k) hg λ_ h=>h) λk hk=>⟨_,by simp,aV h.row hk⟩;refine⟨⟨hr,λy hy=>K.row (h.ids y (hp.mem_iff.1 hy)) (by decide),λy hy=>?_,?_⟩,K⟩
 ·obtain⟨c,d,e⟩:=h.tree y (hp.mem_iff.1 hy);exact⟨c,K.row d (by decide),e⟩
 refine(List.Perm.pairwise_iff (fun {a b} hab=>⟨λg hb ha=>hab.1 g ha hb,λg hb ha=>hab.2 g ha hb⟩) hp).2 h.ap
theorem zP {D:Nat}(hD:W.heap[D]? =some o)(hc:o.isCells=false):aM W (W.putObj D o') [gI]:=
 ⟨by simp[World.putObj],λk t a ht=>World.putObj_heap_other λe=>by
  rcases a with ⟨b,a⟩|⟨rfl,_⟩
  ·rw[<-e,a] at hD;cases hD;cases hc
  exact ht (by simp)⟩
theorem xo {D:Nat}(h:Bl w W)(hD:w.heap.size<=D):Bl w (W.putObj D o'):=
 ⟨h.os,h.tape,h.output,e_ h.size (by simp[World.putObj]),λk hk=>(World.putObj_heap_other (by omega)).trans (h.block k hk)⟩
theorem cj.sls (h:cj base N w v js):∀y∈js,bD y.2.1/\bD y.2.2:=λy hy=>by
 obtain⟨g,d,_⟩:=h.tree y hy
 obtain⟨a,k,e⟩:=ag (h.ids y hy)
 obtain⟨b,f,c⟩:=ag d
 exact⟨⟨a,_,k,e⟩,⟨b,_,f,c⟩⟩
theorem zQ {D:Nat}(h:lo w W b3 b4 N v js u al)(hp:js'.Perm js)(hr:w2.ownsRow w.heap.size 124 4 v js'.length (js'.flatMap cJv))(hg:W.grownBy w2 v.ownBlock)(hK:W.heap[D]? =some (.deferred (some [])))(hD:w.heap.size<=D):
 Bx w2 b3 120 #[v]/\w2.heap[D]? =some (.deferred (some []))/\cj w.heap.size N (w2.putObj D (.deferred none)) v js'/\Bl w (w2.putObj D (.deferred none)):=by
 obtain⟨f,g⟩:=h.out.sorted hp hr hg
 have c:w2.heap[D]? =some (.deferred (some [])):=(hg.block D (j_.1 hK).1 λe=>by
  obtain⟨i,l⟩:=pf h.out.row e.symm
  rw[l] at hK;cases hK).trans hK
 have d:=zP (o':=.deferred none) c rfl;refine⟨g.bx h.x3 (by decide),c,f.kept λk hk=>?_,xo (h.b.grown hg h.b.size λj hj=>(f_ h.out.row j hj).1) hD⟩;rcases (f.lt hk).2 with a|a|a
 ·exact d.same _ _ a (by decide)
 ·exact d.same _ _ a (by decide)
 exact d.same _ _ a (by decide)
end
section
open Go.Shelf
variable{a:Act}{ops:Array Oper}{c:Cfg}{zs:List (Nat×Sm)}{q:List Pw}{tl:List Tp}{xs:List Value}{base k mb n n0 sb yb:Nat}{S:Nat->Prop}{o:Obj}{st:Oper}{P:Program}{E:Prop}{s:Ts}{t:TypeId}{ov qv v:Value}{W W' w w10:World}{x:Xt}
attribute [local go_sem] Oper.semAt_some
theorem xq (fl:List Fl):∀u∈fl.flatMap cF,u.oneCell'=true:=λu a=>by
 obtain⟨f,_,a⟩:=List.mem_flatMap.1 a
 simp[cF] at a
 rcases a with rfl|rfl<;>rfl
theorem xp (h:cy W k t)(e:W'.heap[k]? =W.heap[k]?):cy W' k t:=by
 unfold cy at *;rw[e];exact h
theorem uv {X:World}(hX:Bl W X)(hr:W.ownsRow base 124 4 v n xs)(hg:(X.alloc o).grownBy w10 v.ownBlock):aM W w10 [124]:=by
 have a:Bl W (X.alloc o):=hX.trans ((af _ _).mono hX.size);have b:aM (X.alloc o) w10 [124]:=aM.of_only (ai.of_grown (S:=λk=>v.ownBlock=some k) hg λ_ h=>h) λk hk=>⟨_,by simp,aV ((dL a).row hr (by decide)) hk⟩;exact⟨e_ a.size b.size,λk t hk ht=>(b.same k t (xp hk ((dL a).same k t hk (by simp))) ht).trans ((dL a).same k t hk (by simp))⟩
theorem vG:∀(l:List Sm),(∀x∈l,x.l.length<=8)->(gQ l).length<=8*l.length
 |[],_=>by simp[gQ]
 |x::l,h=>by
  have h1:=vG l λz hz=>h z (List.mem_cons_of_mem _ hz)
  have b:=h x D_
  have a:(gQ (x::l)).length=x.l.length+(gQ l).length:=by simp[gQ]
  rw[a,List.length_cons]
  omega
theorem pu {K:Act->World->Prop}{Q:Exit->Act->World->Prop}(hg:st.guard=none)(h:K a w):if Region.wanted (nop st) (yielded ops a.tmps)=true then (nop st).wp P a w K Q else E:=by
 have b:Region.wanted (nop st) (yielded ops a.tmps)=true:=by simp[Region.wanted,nop,hg]
 rw[if_pos b];unfold Oper.wp;simpa[nop,execOp,Oper.upon,Act.put,Act.eval] using h
set_option linter.unusedSimpArgs false in
theorem Ei (h:aU w S yb mb n0 c s q sb qv ov x tl zs)(hl:zs.length<=8)(hn:∀z∈zs,1<=z.2.l.length/\z.2.l.length<=8)(htop:s.top n0<4398046511104):
    Calls prog 108 #[Px yb] w λe w'=>(∃v js,e=.returned v/\(js.map Prod.fst).Perm (bR s.segs [])/\js.Pairwise (λa b=>¬b.1.1<a.1.1)/\cj w.heap.size (s.top n0) w' v js)/\Bl w w':=by
  obtain⟨i0,hi,bu,bv,bz⟩:=info_parts kg
  obtain⟨j0,hj,br,bs,bt⟩:=info_parts pt
  obtain⟨O,d,aJ⟩:=h.rest.train.row.form
  have an:Bl w ((w.alloc (.cells #[Zn] 120)).alloc (.cells #[Zn] 56)):=(af _ _).trans ((af _ _).mono (by simp))
  have h1:=h.later an
  have bn:((w.alloc (.cells #[Zn] 120)).alloc (.cells #[Zn] 56)).cell? ⟨yb,11,none⟩=some (.slice O zs.length d):=by rw[<-aJ];exact h1.is.box.cell (i:=11) rfl
  have bc:(zs.map Prod.fst).length=zs.length:=List.length_map _
  have aA:Hid (Sl w 210 1 (.slice O zs.length d) zs.length ((zs.map Prod.fst).map ptr)):=by
    have:=h.rest.train.row
    rw[aJ] at this
    show Sl _ _ _ _ _ _
    rw[List.map_map]
    exact this
  have aw:Hid (Sl ((w.alloc (.cells #[Zn] 120)).alloc (.cells #[Zn] 56)) 210 1 (.slice O zs.length d) zs.length ((zs.map Prod.fst).map ptr)):=aA.out.later an
  have J:Hid (∀z∈zs,dt w S (s.top n0) z):=h.rest.train.segs
  have ay:Hid ((zs.map Prod.fst).Nodup):=h.rest.train.nd
  have aW:Hid (zs.map Prod.snd=s.segs):=h.rest.train.snd
  have HN:Hid (∀z∈zs,1<=z.2.l.length/\z.2.l.length<=8):=hn
  have Y:Hid (s.top n0<4398046511104):=htop
  have aX:Hid (((w.alloc (.cells #[Zn] 120)).alloc (.cells #[Zn] 56)).heap.size=w.heap.size+1+1):=by show _=_;simp
  have bm:Hid (lo w ((w.alloc (.cells #[Zn] 120)).alloc (.cells #[Zn] 56)) w.heap.size (w.heap.size+1) (s.top n0) (Zn) [] (Zn) []):=
    ⟨an,(Bx.new _ _ _).mk _,by have:=Bx.new (w.alloc (.cells #[Zn] 120)) #[Zn] 56;rwa [World.size_alloc] at this,⟨World.ownsRow_nil _ _ _ _,by simp,by simp,List.Pairwise.nil⟩,World.ownsRow_nil _ _ _ _,by simp⟩
  clear h h1 aJ hn an htop
  refine(callsIn_wide (n:=3)).1 ?_
  refine callsIn_of_wp_marks func108 rfl trivial ?_ rfl
  simp only[ntmps108,List.size_toArray,List.length_cons,List.length_nil,Nat.reduceAdd,Nat.reduceSub,Array.replicate_succ,Array.replicate_zero,List.push_toArray,List.append_toArray,List.nil_append,List.cons_append]
  gi_upto_region 3 with fail
  generalize (w.alloc (.cells #[Zn] 120)).alloc (.cells #[Zn] 56)=w1 at *
  have am:Hid (Bl w1 (w1.alloc (.cells #[.slice O zs.length d] 195))):=af _ _
  gi_wp2_with (refine⟨trivial,?_⟩;gi_at_call 147;refine(callsIn_wide.2 (im yb O zs.length d w1 bn)).mono ?_;rintro e w' ⟨rfl,rfl⟩)
  refine wpIn_rangeFunc_ownG (α:=Pt (zs.map Prod.fst)) (n:=3) (F:=Fence.wide) rfl (by decide) (gf:=223) (lb:=#[Px w1.heap.size]) rfl trivial (enters_of func223 (by kernel_rfl) rfl)
    (fR Fence.wide 2 trivial rfl (by decide) w1.heap.size (.slice O zs.length d) (zs.map Prod.fst) (by rw[bc];omega) (w1.alloc (.cells #[.slice O zs.length d] 195)) (by simp) (by simp) (by rw[bc];exact aw.out.mk _)) iP (jC λg hg=>Nat.lt_of_lt_of_le (aw.out.lt hg) am.out.size) (Below.refl _ _) (λ_=>rfl)
    (λA W=>xm w W w.heap.size (w.heap.size+1) (s.top n0) zs (A.map Subtype.val)) (λ_ _ _=>False) (xm.own (by have:=am.out.size;have:=aX.out;omega)) (λ_ _ _ _ _ hs _ _=>hs) ⟨_,_,_,bm.out.later am.out,rfl⟩
    (λy=>{tmps:=#[Px yb,undef,Zn,Px w.heap.size,.pointer (some ⟨w.heap.size+1,0,none⟩),Px y.1,undef,Px yb,Px yb,.pointer (some ⟨yb,11,none⟩),.func (.func 223) #[] #[Px w1.heap.size],Px y.1,undef,undef,undef,undef,undef,undef,undef,undef,undef,undef,undef,undef,undef,undef,undef,undef,undef,undef,undef,undef,undef,undef,undef,undef,undef,undef,undef,undef,undef,undef,undef,undef],defers:=[]}) ?assign ?body ?done ?stop
  case assign=>
    intro l y W K r
    unfold ptr
    gi_wp2
    exact r
  case body=>
    rintro l A ⟨p,hp⟩ W ⟨v,js,u,L,he⟩ ax
    obtain⟨⟨p',y⟩,hz,rfl⟩:=List.mem_map.1 hp
    obtain⟨G,aF⟩:∃G,G=gQ ((A.map Subtype.val).map (jn zs)):=⟨_,rfl⟩
    rw[<-aF] at L
    have ai:Hid (G=gQ ((A.map Subtype.val).map (jn zs))):=aF
    clear aF
    obtain⟨va,vc,rfl⟩:=ag L.out.row
    obtain⟨ua,uc,rfl⟩:=ag L.ids
    obtain⟨cv,jv,Q,E⟩:=(J.out (p',y) hz).kept (w':=W.drew) (λk H _=>L.b.block k H) (λ_ h=>h) (Nat.le_refl _)
    have a4:Q.length=y.l.length:=mg E.chs
    have bb:=HN.out _ hz
    simp only at bb
    have hT:=tF p' _ cv Q W.drew E.box rfl E.chs.row E.chs.sl (by omega)
    unfold ptr at hT
    have bg:Bx W.drew (w.heap.size+1) 56 #[.slice ua G.length uc]:=L.x4
    have l0:W.drew.cell? ⟨w.heap.size+1,0,none⟩=some (.slice ua G.length uc):=bg.cell (i:=0) rfl
    have aM:Hid (Q.map Prod.fst=y.l/\Q.length=y.l.length):=⟨E.chs.fst,a4⟩
    have aS:Hid (jn zs p'=y):=dZ ay.out hz
    have aY:Hid (Sl W 210 1 (.slice O zs.length d) zs.length ((zs.map Prod.fst).map ptr)):=aA.out.later L.b
    have bE:G.length<=64/\js.length<=8:=by
      have h1:=congrArg List.length he
      have h2:=dK ((A.map Subtype.val).map (jn zs)) []
      have h3:=vG ((A.map Subtype.val).map (jn zs)) (λz hz=>by
        obtain⟨k,H,rfl⟩:=List.mem_map.1 hz
        obtain⟨⟨k',bq⟩,_,rfl⟩:=List.mem_map.1 H
        obtain⟨⟨bO,z⟩,bh,rfl⟩:=List.mem_map.1 bq
        rw[dZ ay.out bh]
        exact(HN.out _ bh).2)
      rw[<-ai.out] at h3
      simp only[List.length_map] at h1 h2 h3 ax
      omega
    have HE:Hid (js.map Prod.fst=bR ((A.map Subtype.val).map (jn zs)) []):=he
    have HA:Hid (lo w W w.heap.size (w.heap.size+1) (s.top n0) (.slice va js.length vc) js (.slice ua G.length uc) G):=L
    have bM:Q.length<=8:=by omega
    have bL:1<=Q.length:=by omega
    clear E he L ax bg a4 bb
    have q1:Hid (G.length+Q.length<=maxLen):=by show _<=_;unfold maxLen;omega
    have q3:Hid ((G.length+Q.length)*8<=140737488355328):=by show _<=_;omega
    obtain⟨R,hR⟩:∃R:World->Prop,R=λW'=>KeepsFrom (w1.alloc (.cells #[.slice O zs.length d] 195)).heap.size W W'/\jD (.slice O zs.length d) W W'/\xm w W' w.heap.size (w.heap.size+1) (s.top n0) zs ((A++[(⟨p',hp⟩:Pt (zs.map Prod.fst))]).map Subtype.val):=⟨_,rfl⟩
    have HR:Hid (∀W',(KeepsFrom (w1.alloc (.cells #[.slice O zs.length d] 195)).heap.size W W'/\jD (.slice O zs.length d) W W'/\xm w W' w.heap.size (w.heap.size+1) (s.top n0) zs ((A++[(⟨p',hp⟩:Pt (zs.map Prod.fst))]).map Subtype.val))->R W'):=λW' h=>by rw[hR];exact h
    refine kT R (λ_ _ h=>by rw[hR] at h;exact h) ?_
    clear hR
    refine wpIn_block (wpIn_seq (iD _ 4 _ (S:=λw'=>w'.cell? ⟨w.heap.size+1,0,none⟩=some (.slice ua G.length uc)) rfl rfl (λ⟨_,_,h⟩=>by cases h.1) rfl rfl rfl (by kernel_rfl) (by simp only[List.setIfInBounds_toArray,List.set_cons_zero,List.set_cons_succ];rfl) l0 (λhHeld=>?_)))
    refine tk 0 ?_
    refine tk 1 ?_
    refine wpAnyH_ready (rs:=[2]) (by kernel_rfl) (by simp) ?_
    refine AllReadyH.cons rfl (λK r=>?_) AllReadyH.nil
    go_simp
    go_wp2_with (go_at_call 149;refine hT.mono ?_;rintro e w5 ⟨⟨v5,rfl,aG⟩,M⟩;obtain⟨a5,k5,rfl⟩:=ag aG)
    have H5:=cK (show Bl W w5 from ⟨M.os,M.tape,M.output,M.size,M.block⟩)
    have az:=cK aG
    refine r.out _ _ (ae M l0) (λhHeld=>?_)
    clear r K aG M hT
    obtain⟨g5,rfl⟩:∃g5,a5=some ⟨g5,0,none⟩:=by
      rcases az.out.2 with ⟨_,h0⟩|⟨g,bG,bI,e,_⟩
      · omega
      · injection e with e1 _ _
        exact⟨g,e1⟩
    have aL:Hid (∀j u,(Q.map λy=>cI y.1.1)[j]? =some u->w5.cell? ((⟨g5,0,none⟩:Addr).add j)=some u):=az.out.cells rfl
    have aQ:Hid (∀u∈Q.map λy=>cI y.1.1,u.oneCell'=true):=λu hu=>by
      obtain⟨z,_,rfl⟩:=List.mem_map.1 hu
      rfl
    refine wpAnyH_ready (rs:=[3]) (by kernel_rfl) (by simp) ?_
    refine AllReadyH.cons rfl (λK r=>?_) AllReadyH.nil
    refine aT rfl _ _ 56 rfl w.heap.size _ i0 _ 1 8 underlying56 hi bu bv bz rfl (by decide) (.slice ua G.length uc) _ _ rfl ((dL H5.out).row HA.out.ids (by decide)) ⟨g5,0,none⟩ Q.length k5 (Q.map λy=>cI y.1.1) rfl (by simp) aL.out aQ.out q1.out q3.out (Nat.le_trans HA.out.b.size H5.out.size) ?_
    rintro u6 w6 bd ba bf
    obtain⟨m,aa⟩:∃m,m=G++y.l.map Prod.fst:=⟨_,rfl⟩
    have aH:w6.ownsRow w.heap.size 3 1 u6 m.length (m.map cI):=by
      rw[aa,<-aM.out.1,List.length_append,List.length_map,List.length_map,List.map_append,List.map_map,List.map_map]
      exact bd
    have U:Hid (m=G++y.l.map Prod.fst):=aa
    clear aa
    obtain⟨h7,o7,b6⟩:=CV HA.out (Nat.le_succ _) H5.out aH ba bf
    obtain⟨a6,k6,rfl⟩:=ag aH
    have o:=cK h7
    have aR:=cK o7
    have m6:=b6.c 0 (.slice ua G.length uc)
    have f6:=b6.fr 0
    refine r.out _ _ m6 (λhHeld=>?_)
    clear r K bd ba bf aH h7 o7 b6 aL aQ az q1 q3
    refine wpAnyH_ready (rs:=[4]) (by kernel_rfl) (by simp) ?_
    refine AllReadyH.cons rfl (λK r=>?_) AllReadyH.nil
    refine pu rfl ?_
    refine r.out _ _ m6 (λhHeld=>?_)
    clear r K
    refine wpAnyH_done (by kernel_rfl) ?_ _
    unfold kQ
    go_simp
    generalize w6.setCell ⟨w.heap.size+1,0,none⟩ (.slice a6 m.length k6)=f at *
    obtain⟨bJ,ao,bH,aI⟩:=(J.out (p',y) hz).kept (w':=f) (λk H _=>o.out.b.block k H) (λ_ h=>h) (Nat.le_refl _)
    have c3:f.cell? ⟨p',3,none⟩=some ao:=aI.box.cell (i:=3) rfl
    have HJ:Hid (gJ f S (s.top n0) ao y.job):=aI.job
    have ak:=cK (nM (B:=(w1.alloc (.cells #[.slice O zs.length d] 195)).heap.size) aR.out (λk H=>by
      rcases H with H|H
      · exact⟨_,aV HA.out.ids H,by decide,by decide⟩
      · exact⟨56,by rw[H];exact HA.out.x4.ty,by decide,by decide⟩) aY.out)
    have aZ:Hid (Sl f 210 1 (.slice O zs.length d) zs.length ((zs.map Prod.fst).map ptr)):=aA.out.later o.out.b
    have V:Hid (G++y.l.map Prod.fst=gQ (((A++[(⟨p',hp⟩:Pt (zs.map Prod.fst))]).map Subtype.val).map (jn zs))):=by
      show _=_
      rw[List.map_append,List.map_append,ai.out]
      simp[gQ,aS.out]
    have aO:Hid (bR (((A++[(⟨p',hp⟩:Pt (zs.map Prod.fst))]).map Subtype.val).map (jn zs)) []=js.map Prod.fst++jb y G):=by
      show _=_
      rw[List.map_append,List.map_append,HE.out,ai.out]
      show bR (_++[jn zs p']) []=_
      rw[aS.out,iV,List.nil_append]
    rw[<-U.out] at V
    have bD:m.length<=72:=by rw[U.out,List.length_append,List.length_map];have:=aM.out.2;omega
    clear aI J HA aR m6 f6 aY ai H5 l0
    cases ej:y.job with
    |none=>
      obtain rfl:ao=.pointer none:=by have:=HJ.out;rw[ej] at this;exact this
      clear HJ
      gi_wp2
      refine⟨by trivial,HR.out _ ⟨ak.out.1,ak.out.2,_,js,_,by rw[<-V.out];exact o.out,?_⟩⟩
      rw[aO.out]
      simp[jb,ej]
    |some j=>
      obtain⟨C,jt,T,rfl,hJ,aD,a2,a1,-,-⟩:gJ f S (s.top n0) ao (some j):=ej▸HJ.out
      obtain⟨ja,jc,rfl⟩:=aD.form
      unfold ptr at c3
      have bk:Hid (∀X,Bl f X->Calls prog 146 #[.slice a6 m.length k6] X λe X'=>(∃v',e=.returned v'/\X'.ownsRow X.heap.size 3 1 v' m.length (m.map cI))/\Bl X X'):=λX hX=>sy _ _ _ X ((Sl.of_row o.out.ids).later hX) (sA _) (by unfold maxLen;omega) (by omega)
      have bj:Hid (∀X,Bl f X->Calls prog 150 #[.slice ja T.length jc] X λe X'=>(∃v',e=.returned v'/\X'.ownsRow X.heap.size 80 2 v' T.length (T.flatMap cF))/\Bl X X'):=λX hX=>xf _ _ _ X (aD.later hX) (xq T) (by have:=Y.out;unfold maxLen;omega) (by have:=Y.out;omega)
      have aj:Hid (Bx f C 242 #[I j.num,I j.til,.slice ja T.length jc]):=hJ
      have aN:Hid (fE T j.files/\T.length<=s.top n0):=⟨a2,a1⟩
      have q4:Hid (js.length+1<=maxLen):=by show _<=_;unfold maxLen;omega
      have q5:Hid ((js.length+1)*64<=140737488355328):=by show _<=_;omega
      clear hJ aD a2 a1 HJ Y
      gi_wp2
      have z3:f.drew.cell? ⟨w.heap.size,0,none⟩=some (.slice va js.length vc):=o.out.x3.cell (i:=0) rfl
      have z4:f.drew.cell? ⟨w.heap.size+1,0,none⟩=some (.slice a6 m.length k6):=o.out.x4.cell (i:=0) rfl
      have ap:f.drew.cell? ⟨C,0,none⟩=some (I j.num):=aj.out.cell (i:=0) rfl
      have aq:f.drew.cell? ⟨C,1,none⟩=some (I j.til):=aj.out.cell (i:=1) rfl
      have ar:f.drew.cell? ⟨C,2,none⟩=some (.slice ja T.length jc):=aj.out.cell (i:=2) rfl
      refine iD _ 19 _ (S:=λw'=>w'.cell? ⟨w.heap.size,0,none⟩=some (.slice va js.length vc)/\w'.cell? ⟨w.heap.size+1,0,none⟩=some (.slice a6 m.length k6)/\w'.cell? ⟨C,0,none⟩=some (I j.num)/\w'.cell? ⟨C,1,none⟩=some (I j.til)/\w'.cell? ⟨C,2,none⟩=some (.slice ja T.length jc)) rfl rfl (λ⟨_,_,h⟩=>by cases h.1) rfl rfl rfl (by kernel_rfl) (by simp only[List.setIfInBounds_toArray,List.set_cons_zero,List.set_cons_succ];rfl) ⟨z3,z4,ap,aq,ar⟩ (λhHeld=>?_)
      refine tk 0 ?_
      refine tk 1 ?_
      refine tk 2 ?_
      refine tk 3 ?_
      refine tk 4 ?_
      refine tk 5 ?_
      refine tk 6 ?_
      refine tk 7 ?_
      refine tk 8 ?_
      refine tk 9 ?_
      refine tk 11 ?_
      refine tk 12 ?_
      refine tk 13 ?_
      refine tk 14 ?_
      refine wpAnyH_ready (rs:=[10]) (by kernel_rfl) (by simp) ?_
      refine AllReadyH.cons rfl (λK r=>?_) AllReadyH.nil
      go_simp
      go_wp2_with (go_at_call 146;refine(bk.out _ (fX (Below.refl _ _))).mono ?_;rintro e y1 ⟨⟨v8,rfl,N⟩,t⟩;obtain⟨a8,k8,rfl⟩:=ag N)
      have r1:=cK (show y1.ownsRow f.heap.size _ _ _ _ _ from N)
      have b1:=cK (show Bl f y1 from ⟨t.os,t.tape,t.output,t.size,t.block⟩)
      have P:Bl f y1:=b1.out
      refine r.out _ _ ⟨ae (w:=f) P z3,ae (w:=f) P z4,ae (w:=f) P ap,ae (w:=f) P aq,ae (w:=f) P ar⟩ (λhHeld=>?_)
      clear r K N t P
      refine wpAnyH_ready (rs:=[15]) (by kernel_rfl) (by simp) ?_
      refine AllReadyH.cons rfl (λK r=>?_) AllReadyH.nil
      go_simp
      go_wp2_with (go_at_call 150;refine(bj.out _ b1.out).mono ?_;rintro e X ⟨⟨v8,rfl,N⟩,t⟩;obtain⟨a9,k9,rfl⟩:=ag N)
      have r2:=cK (show X.ownsRow y1.heap.size _ _ _ _ _ from N)
      have b2:=cK (show Bl y1 X from ⟨t.os,t.tape,t.output,t.size,t.block⟩)
      have P:Bl f X:=(b1.out).trans (b2.out.mono b1.out.size)
      refine r.out _ _ ⟨ae (w:=f) P z3,ae (w:=f) P z4,ae (w:=f) P ap,ae (w:=f) P aq,ae (w:=f) P ar⟩ (λhHeld=>?_)
      clear r K N t P
      have HX:=cK (show Bl f X from b1.out.trans (b2.out.mono b1.out.size))
      have H8:=cK ((dL b2.out).row r1.out (by decide))
      have H9:=cK (cp r2.out b1.out.size)
      clear r1 r2 b1 b2
      refine tk 16 ?_
      refine wpAnyH_ready (rs:=[17]) (by kernel_rfl) (by simp) ?_
      refine AllReadyH.cons rfl (λK r=>?_) AllReadyH.nil
      go_simp
      have bA:=cK (show Bl f (X.alloc (.cells #[I j.num,I j.til,.slice a8 m.length k8,.slice a9 T.length k9] 124)) from HX.out.trans ((af _ _).mono HX.out.size))
      refine r.out _ _ ⟨ae (w:=f) bA.out z3,ae (w:=f) bA.out z4,ae (w:=f) bA.out ap,ae (w:=f) bA.out aq,ae (w:=f) bA.out ar⟩ (λhHeld=>?_)
      clear r K
      refine wpAnyH_ready (rs:=[18]) (by kernel_rfl) (by simp) ?_
      refine AllReadyH.cons rfl (λK r=>?_) AllReadyH.nil
      refine aT rfl _ _ 120 rfl w.heap.size _ j0 _ 4 64 underlying120 hj br bs bt rfl (by decide) (.slice va js.length vc) _ _ rfl ((dL bA.out).row o.out.out.row (by decide)) ⟨X.heap.size,0,none⟩ 1 1 [I j.num,I j.til,.slice a8 m.length k8,.slice a9 T.length k9] rfl rfl (au X _ _) (by simp[Value.oneCell']) q4.out q5.out (Nat.le_trans o.out.b.size bA.out.size) ?_
      rintro bQ ah ac ab -
      obtain⟨a0,bi,aC⟩:=CW (g:=j.files) o.out (Nat.le_refl _) HX.out H8.out H9.out aN.out.1 aN.out.2 ac ab
      have aB:=uv HX.out o.out.out.row ab
      obtain⟨bF,bP,rfl⟩:=ag ac
      have B4:=aB.bx o.out.x4 (by decide)
      have BJ:=aB.bx aj.out (by decide)
      have aK:=cK a0
      have aP:=cK bi
      have bC:=aC.c 0 (.slice va js.length vc)
      have bK:=aC.fr 0
      have Z:ah.cell? ⟨w.heap.size,0,none⟩=some (.slice va js.length vc)/\ah.cell? ⟨w.heap.size+1,0,none⟩=some (.slice a6 m.length k6)/\ah.cell? ⟨C,0,none⟩=some (I j.num)/\ah.cell? ⟨C,1,none⟩=some (I j.til)/\ah.cell? ⟨C,2,none⟩=some (.slice ja T.length jc):=⟨bC,B4.cell (i:=0) rfl,BJ.cell (i:=0) rfl,BJ.cell (i:=1) rfl,BJ.cell (i:=2) rfl⟩
      refine r.out _ _ Z (λhHeld=>?_)
      clear r K ac ab a0 bi aC B4 BJ aB
      refine wpAnyH_ready (rs:=[19]) (by kernel_rfl) (by simp) ?_
      refine AllReadyH.cons rfl (λK r=>?_) AllReadyH.nil
      refine pu rfl ?_
      refine r.out _ _ Z (λhHeld=>?_)
      clear r K
      refine wpAnyH_done (by kernel_rfl) ?_ _
      unfold kQ
      clear hHeld Z
      go_simp
      have av:=nM (B:=(w1.alloc (.cells #[.slice O zs.length d] 195)).heap.size) aP.out (λk H=>by
        rcases H with H|H
        · exact⟨_,aV o.out.out.row H,by decide,by decide⟩
        · exact⟨120,by rw[H];exact o.out.x3.ty,by decide,by decide⟩) aZ.out
      refine⟨by trivial,HR.out _ ⟨KeepsFrom.trans ak.out.1 av.1,iP ak.out.2 av.2,_,_,_,by rw[<-V.out];exact aK.out,?_⟩⟩
      rw[aO.out,List.map_append]
      simp[jb,ej,U.out]
  case done=>
    rintro D ys W hD rfl ⟨v,js,u,L,he⟩ r
    have bN:js.length<=8:=by
      have h1:=congrArg List.length he
      have h2:=dK (((zs.map Prod.fst).attach.map Subtype.val).map (jn zs)) []
      simp only[List.length_map,List.length_attach] at h1 h2
      omega
    have a7:js.map Prod.fst=bR s.segs []:=by
      rw[he,List.attach_map_subtype_val,List.map_map,<-aW.out]
      congr 1
      refine List.map_congr_left λz hz=>?_
      exact dZ ay.out hz
    have aE:=xn js v w.heap.size W L.out.row L.out.sls (by omega)
    obtain⟨va,vc,rfl⟩:=ag L.out.row
    have m0:=L.x3.c 0 (.slice va js.length vc)
    have bo:w.heap.size<=D:=by have:=am.out.size;have:=aX.out;omega
    have HA:=cK L
    have bl:=cK a7
    clear L he a7
    gi_wp2_with (refine⟨trivial,?_⟩;gi_at_call 151;refine(callsIn_wide.2 aE).mono ?_;rintro e w2 ⟨rfl,⟨bB,hp,hs,hr⟩,hg⟩;obtain⟨b2,bp,o2,a3⟩:=zQ HA.out hp hr hg r bo;have m2:=b2.c 0 (.slice va js.length vc);have HF:=cK (show (∃v' ad,v'=.slice va js.length vc/\(ad.map Prod.fst).Perm (bR s.segs [])/\ad.Pairwise (λa b=>¬b.1.1<a.1.1)/\cj w.heap.size (s.top n0) (w2.putObj D (.deferred none)) v' ad)/\Bl w (w2.putObj D (.deferred none)) from ⟨⟨_,bB,rfl,(by rw[<-bl.out];exact hp.map _),hs,o2⟩,a3⟩);clear hp hs hr hg o2 a3 b2)
    refine⟨by simp,.inl ⟨_,_,rfl,run_takeDeferred bp,?_⟩⟩
    obtain⟨⟨v',ad,rfl,h1,h2,h3⟩,h4⟩:=HF.out
    exact⟨.slice va js.length vc,by simp[results,results108,go_sem],⟨_,ad,rfl,h1,h2,h3⟩,h4⟩
  case stop=>
    rintro D c A W _ _ h _
    exact h.elim
end
end Go.Proofs.YtgamgomepdfgdaaGreat
