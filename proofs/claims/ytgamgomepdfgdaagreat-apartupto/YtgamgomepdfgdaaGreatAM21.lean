import Derived.Deep.LoopGhost
import Derived.Test.YtgamgomepdfgdaaGreatAM17
import Derived.Test.YtgamgomepdfgdaaGreatAM18
import Derived.Test.YtgamgomepdfgdaaGreatAM19
import Derived.Test.YtgamgomepdfgdaaGreatAM20
import Derived.Test.YtgamgomepdfgdaaGreatAM08
set_option maxRecDepth 100000
set_option maxHeartbeats 8000000
namespace Go.Proofs.YtgamgomepdfgdaaGreat
open Go.RowKit Go.Proofs.Tryz
section
variable{c:Cfg}{n0 nb:Nat}{z:Nz}{s:Ts}{w w0:World}
theorem rW (h:aS w0 w nb n0 c s z)(hs:s.segs=[])(hq:s.queue=[]):
 c_ 178 #[Px nb] w λe w'=>e=.returned (.bool false)/\bM w0 w' nb n0 c s:=by
 have f:z.zs.length=0:=by
  have:=h.ss;rw[hs] at this;rw[List.map_eq_nil_iff.1 this];rfl
 have d:z.q.length=0:=by
  have:=h.qs;rw[hq] at this;rw[List.map_eq_nil_iff.1 this];rfl
 obtain⟨n,o,b⟩:=ag h.srow;obtain⟨l,m,a⟩:=ag h.row;rw[f] at b;rw[d] at a;have k:w.cell? ⟨nb,11,none⟩=some (.slice n 0 o):=by rw[<-b];exact h.box.cell (i:=11) rfl
 have j:w.cell? ⟨nb,10,none⟩=some (.slice l 0 m):=by rw[<-a];exact h.box.cell (i:=10) rfl
 have g:Hid (bM w0 w nb n0 c s):=⟨z,h⟩;clear h hs hq f d b a;go_enter func178,ntmps178;go_wp2_with fail;go_ret;exact⟨rfl,g.out⟩
theorem t7 (h:aS w0 w nb n0 c s z)(hI:s.Inv c)(hc:c.Ok)(hs:s.segs=[])(hq:s.queue≠[])(hi:s.ids.length<1048576000):
 c_ 178 #[Px nb] w λe w'=>e=.returned (.bool true)/\bM w0 w' nb n0 c (s.pick c):=by
 have k:z.zs.length=0:=by
  have:=h.ss;rw[hs] at this;rw[List.map_eq_nil_iff.1 this];rfl
 have f:0<z.q.length:=by
  have:=h.qs;have d:=S_.2 hq;rw[<-this,d_] at d;exact d
 have g:=DY h hI hc hq hi;obtain⟨t,u,b⟩:=ag h.srow;obtain⟨p,r,a⟩:=ag h.row;rw[k] at b;obtain⟨n,j⟩:∃n,n=z.q.length:=⟨_,rfl⟩;rw[<-j] at a f;have o:w.cell? ⟨nb,11,none⟩=some (.slice t 0 u):=by rw[<-b];exact h.box.cell (i:=11) rfl
 have m:w.cell? ⟨nb,10,none⟩=some (.slice p n r):=by rw[<-a];exact h.box.cell (i:=10) rfl
 clear h hs hq k b a j;go_enter func178,ntmps178;go_wp2_with fail;go_fit g;rintro e v ⟨rfl,d⟩;have l:=hd d;clear d g;go_wp2_with fail;go_ret;exact⟨rfl,l.out⟩
theorem D7 (h:bM w0 w nb n0 c s)(hI:s.Inv c)(hc:c.Ok)(hn:(n0+4*s.ids.length+136)*32<=140737488355328)(hi:s.ids.length<1048576000):
 c_ 178 #[Px nb] w λe w'=>(∃s',s.step c=some s'/\e=.returned (.bool true)/\bM w0 w' nb n0 c s')\/(s.step c=none/\e=.returned (.bool false)/\bM w0 w' nb n0 c s):=by
 obtain⟨z,h⟩:=h;cases hs:s.segs with
 |nil=>
  by_cases hq:s.queue=[]
  ·refine(rW h hs hq).mono ?_;rintro e w' ⟨rfl,a⟩;exact .inr ⟨by simp[Ts.step,hs,hq],rfl,a⟩
  refine(t7 h hI hc hs hq hi).mono ?_;rintro e w' ⟨rfl,a⟩;exact .inl ⟨_,by simp[Ts.step,hs,hq],rfl,a⟩
 |cons f m=>
  have i:=dg f.l s.tip;by_cases h0:(aB s.tip f.l).2=0
  ·refine(tV h hI hs hn hi h0).mono ?_;rintro e w' ⟨rfl,a⟩;exact .inl ⟨_,by simp[Ts.step,hs,h0],rfl,a⟩
  by_cases h1:(aB s.tip f.l).2<f.l.length
  ·refine(rU h hI hs hn ⟨h0,h1⟩).mono ?_;rintro e w' ⟨rfl,a⟩;exact .inl ⟨_,by simp[Ts.step,hs,h0,h1],rfl,a⟩
  have d:(aB s.tip f.l).2=f.l.length:=by omega
  by_cases h2:f.by_≠0
  ·refine(tZ h hI hs hn hi ⟨d,h2⟩).mono ?_;rintro e w' ⟨rfl,a⟩;exact .inl ⟨_,by simp only[Ts.step,hs];rw[if_neg h0,if_neg h1,if_pos h2],rfl,a⟩
  have b:f.by_=0:=by simpa using h2
  by_cases h3:c.retries<f.fails
  ·by_cases h4:1<f.l.length
   ·refine(qu h hI hs hn ⟨d,b,h3,h4⟩).mono ?_;rintro e w' ⟨rfl,a⟩;exact .inl ⟨_,by simp only[Ts.step,hs];rw[if_neg h0,if_neg h1,if_neg h2,if_pos h3],rfl,a⟩
   have g:f.l.length=1:=by
    have:=S_.2 (hI.sm f (by rw[hs];exact D_)).ne;omega
   refine(qx h hI hs hn hi ⟨d,b,h3,g⟩).mono ?_;rintro e w' ⟨rfl,a⟩;exact .inl ⟨_,by simp only[Ts.step,hs];rw[if_neg h0,if_neg h1,if_neg h2,if_pos h3],rfl,a⟩
  refine(zi h hI hs hn ⟨d,b,by omega⟩).mono ?_;rintro e w' ⟨rfl,a⟩;exact .inr ⟨by simp only[Ts.step,hs];rw[if_neg h0,if_neg h1,if_neg h2,if_neg h3],rfl,a⟩
def kA (w0 wr:World)(nb n0:Nat)(c:Cfg)(s s':Ts):Prop:=bM w0 wr nb n0 c s'/\s'.Inv c/\(s'.ids=s.ids/\s'.begun=s.begun/\s'.now=s.now)/\s'.run c s'.mu=s.run c s.mu
theorem Fc (num:Nat)(pass:Bool)(h:bM w0 w nb n0 c s)(hI:s.Inv c)(hc:c.Ok)(hn:(n0+4*s.ids.length+136)*32<=140737488355328)(hi:s.ids.length<1048576000)(hbg:s.begun<1048576000)(hnw:s.now<1048576000):
 c_ 131 #[Px nb,.agg #[I 3,I 0,I num,.bool pass,Zn]] w λe w'=>e=.returned (.tuple #[])/\bM w0 w' nb n0 c (s.pump c):=by
 have G:=af w (.cells #[I 3,I 0,I num,.bool pass,Zn] 168);have R:=Bx.new w #[I 3,I 0,I num,.bool pass,Zn] 168;have S:=h.later G
 have f:Hid (∀(W:World) (a:Ts),kA w0 W nb n0 c s a->c_ 178 #[Px nb] W λe w'=>(∃u,kA w0 w' nb n0 c s u/\u.mu<a.mu/\e=.returned (.bool true))\/(a.step c=none/\kA w0 w' nb n0 c s a/\e=.returned (.bool false))):=λW a r=>by
  obtain⟨d,g,j,L⟩:=r;refine(D7 d g hc (by rw[j.1];exact hn) (by rw[j.1];exact hi)).mono ?_;rintro e w' (⟨u,b,rfl,q⟩|⟨b,rfl,q⟩)
  ·have H:=g.goes hc b;have o:=Ts.step_same b;have Q:=g.run_step hc b;exact .inl ⟨u,⟨q,H.1,⟨o.1.trans j.1,o.2.1.trans j.2.1,o.2.2.1.trans j.2.2⟩,Q.symm.trans L⟩,H.2,rfl⟩
  exact .inr ⟨b,⟨q,g,j,L⟩,rfl⟩
 have y:Hid (∀(W:World) (a:Ts),kA w0 W nb n0 c s a->a.step c=none->c_ 179 #[Px nb] W λe w'=>e=.returned (.tuple #[])/\bM w0 w' nb n0 c (s.pump c)):=λW a r b=>by
  obtain⟨⟨z,d⟩,g,j,L⟩:=r
  have X:s.pump c=a.begin c:=by
   unfold Ts.pump;rw[<-L,Ts.run_none b]
  rw[X];exact CF d g hc (by rw[j.1];exact hn) (by rw[j.2.1];exact hbg) (by rw[j.2.2];exact hnw)
 have D:kA w0 (w.alloc (.cells #[I 3,I 0,I num,.bool pass,Zn] 168)) nb n0 c s s:=⟨S,hI,⟨rfl,rfl,rfl⟩,rfl⟩;have F:=f.out _ s D;clear h S hI D G;go_enter func131,ntmps131;go_upto_region 1 with fail;generalize w.alloc (.cells #[I 3,I 0,I num,.bool pass,Zn] 168)=w1 at *;have Z:=R.c 0 (I 3);clear R;go_wp2_with fail;go_fit F;rintro e T E
 have B:Hid (∃t,e=.returned (.bool t)/\∃a,kA w0 T nb n0 c s a/\(t=false->a.step c=none)):=by
  rcases E with ⟨u,d,_,rfl⟩|⟨d,g,rfl⟩
  ·exact⟨true,rfl,u,d,λh=>by cases h⟩
  exact⟨false,rfl,s,g,λ_=>d⟩
 obtain⟨t,rfl,a,r,b⟩:=B.out;have N:Hid (kA w0 T nb n0 c s a/\(t=false->a.step c=none)):=⟨r,b⟩;clear E B r b F Z;go_wp2_with fail;go_loopg [4] (if t then a.mu+1 else 0) (λn tv wr=>∃K,tv=.bool K/\Hid (∃a,n=(if K then a.mu+1 else 0)/\kA w0 wr nb n0 c s a/\(K=false->a.step c=none)))
 case atStart=>exact⟨t,rfl,a,rfl,N.out⟩
 obtain⟨K,rfl,O⟩:=hrel;obtain⟨p,m,k,i⟩:=O.out;cases K with
 |true=>
  have l:=f.out wr p k;have A:Hid (gk=p.mu+1):=m;clear O k i m;go_wp2_with fail;go_fit l;rintro e U P;rcases P with ⟨M,d,J,rfl⟩|⟨d,g,rfl⟩
  ·have x:Hid (kA w0 U nb n0 c s M/\M.mu<p.mu):=⟨d,J⟩;clear d J l;go_wp2_with fail;go_roundg (M.mu+1)
   case rel=>exact⟨true,rfl,M,rfl,x.out.1,λh=>by cases h⟩
   case measure=>have:=A.out;have:=x.out.2;omega
  have x:Hid (p.step c=none/\kA w0 U nb n0 c s p):=⟨d,g⟩;clear d g l;go_wp2_with fail;go_roundg 0
  case rel=>exact⟨false,rfl,p,rfl,x.out.2,λ_=>x.out.1⟩
  case measure=>have:=A.out;omega
 |false=>
  have C:=y.out wr p k (i rfl);clear O k i m;go_wp2_with fail;go_fit C;rintro e Y ⟨rfl,q⟩;have V:Hid (bM w0 Y nb n0 c (s.pump c)):=q;clear q C;go_wp2_with fail;exact be_ ⟨rfl,V.out⟩
variable{n:Nat}
abbrev Lr:=Rc×Value
def cL (x:Lr):List Value:=[I x.1.kind,I x.1.lane,I x.1.num,.bool x.1.pass,x.2]
def nI (x:Lr):Prop:=(∃a n cap,x.2=.slice a n cap)/\(x.1.kind≠1->x.1.lane=0/\x.2=Zn)
def iU (c:Cfg)(fv lv:Value)(torn:ByteArray)(down broken:Bool)(keep:Int):Array Value:=
 #[I c.lanes,I c.age,I c.batch,I c.window,I c.retries,I c.deadline,I c.queue,fv,lv,.string torn,.bool down,.bool broken,I keep]
theorem bM.below (h:bM w0 w nb n0 c s):Bl w0 w:=by
 obtain⟨z,h⟩:=h;exact h.below
theorem Ea (x:Lr)(h:bM w0 w nb n0 c s)(hC:s.Can c x.1)(hI:s.Inv c)(hc:c.Ok)(hx:nI x)(hE:x.1.kind=1->iS w0 x.1.edits x.2)(hFw:s.Few n)(hn:n<1048576)(hn0:(n0+4*s.ids.length+136)*32<=140737488355328):
 c_ 131 #[Px nb,.agg #[I x.1.kind,I x.1.lane,I x.1.num,.bool x.1.pass,x.2]] w λe w'=>e=.returned (.tuple #[])/\bM w0 w' nb n0 c (s.does c x.1):=by
 obtain⟨r,v⟩:=x;obtain⟨⟨B,D,C,rfl⟩,g⟩:=hx;have N:=hFw.ids;have O:=hFw.begun;have P:=hFw.now;have p:=hI.ack;have t:=hI.cnt;have u:=e_ hI.len hc.2.2.2.2.2.2.2;obtain⟨J,K⟩:=hC.kind;simp only at g hC hE J K ⊢;by_cases a:r.kind=1
 ·have e:s.does c r={s with ids:=s.ids++[r.num],queue:=s.queue++[⟨r.num,r.lane,0,s.ids.length,r.edits⟩]}:=by rw[Ts.does,if_pos a]
  rw[e,a];obtain⟨z,h⟩:=h;have l:z.q.length=s.queue.length:=by rw[<-h.qs,d_]
  refine(E9 w0.heap.size nb r.lane r.num r.pass B D C c z.tip z.mv z.sv s z.q z.idv z.qv z.ov w h.q h.below.size (by omega) (by omega) r.edits).mono ?_;rintro e w' ⟨rfl,⟨A,o,f,L,m⟩,d⟩;refine⟨rfl,_,h.re (d.mono λk a=>?_) f L m (λy b=>?_) rfl rfl rfl (by simp) (b_ _)⟩
  ·rcases a with a|a|a
   ·exact .inl a
   ·exact .inr (.inl a)
   exact .inr (.inr (.inl a))
  rcases E_.1 b with b|b
  ·exact h.eds y b
  obtain rfl:=o_.1 b;exact hE a
 obtain⟨E,F⟩:=g a;rw[E,F];by_cases hk2:r.kind=2
 ·have e:s.does c r={s with queue:=s.queue.filter λc=>c.id !=r.num,outs:=s.outs++[(r.num,4)]}:=by rw[Ts.does,if_neg a,if_pos hk2]
  rw[e,hk2];obtain⟨z,h⟩:=h;have l:z.q.length=s.queue.length:=by rw[<-h.qs,d_]
  refine(Fa w0.heap.size nb r.num r.pass c z.tip z.mv z.sv s z.q z.idv z.qv z.ov w h.q h.below.size (hC.cancel hk2) (by omega) (by omega)).mono ?_;rintro e w' ⟨rfl,⟨o,M,f,m⟩,d⟩;refine⟨rfl,_,h.re (d.mono λk a=>a.elim .inl λe=>.inr (.inr (.inr e))) f (dd.refl _ _) m (λy b=>h.eds y (Z_.1 b).1) rfl rfl rfl (b_ _) (by simp)⟩
 by_cases hk3:r.kind=3
 ·have e:s.does c r=s.pump c:=by rw[Ts.does,if_neg a,if_neg hk2,if_pos hk3]
  rw[e,hk3];exact Fc r.num r.pass h hI hc hn0 (by omega) (by omega) (by omega)
 by_cases hk4:r.kind=4
 ·have e:s.does c r=s.answer r.num r.pass:=by rw[Ts.does,if_neg a,if_neg hk2,if_neg hk3,if_pos hk4]
  rw[e,hk4];obtain⟨y,b,H⟩:=hC.ans hk4;obtain⟨j,G,hn⟩:=(Sm.runs_iff _ _).1 H;have:=((hI.sm y b).job j G).2.2.1;exact Fd r.num r.pass h hI hc (by omega)
 by_cases hk5:r.kind=5
 ·have e:s.does c r=s.tick r.num:=by rw[Ts.does,if_neg a,if_neg hk2,if_neg hk3,if_neg hk4,if_pos hk5]
  rw[e,hk5];exact Fe r.num r.pass h hI hc (hC.tick hk5).2 (by omega)
 by_cases hk6:r.kind=6
 ·have e:s.does c r={s with acked:=s.acked+1}:=by rw[Ts.does,if_neg a,if_neg hk2,if_neg hk3,if_neg hk4,if_neg hk5,if_pos hk6]
  rw[e,hk6];obtain⟨z,h⟩:=h;refine(Fb w0.heap.size nb r.num r.pass c z.tip z.mv z.sv s z.q z.idv z.qv z.ov w h.q (by omega)).mono ?_;rintro e w' ⟨rfl,f,d⟩;exact⟨rfl,_,h.re (d.mono λk a=>.inl a) f (dd.refl _ _) (dd.refl _ _) h.eds rfl rfl rfl (b_ _) (b_ _)⟩
 have i:r.kind=7:=by omega
 have e:s.does c r=s.lose:=by rw[Ts.does,if_neg a,if_neg hk2,if_neg hk3,if_neg hk4,if_neg hk5,if_neg hk6]
 rw[e,i];exact Ff r.num r.pass h hI
theorem Fg (yb:Nat)(c:Cfg)(fv lv:Value)(torn:ByteArray)(down broken:Bool)(keep:Int)(lr:List Lr)(w:World)(hB:Bx w yb 151 (iU c fv lv torn down broken keep))(n0:Nat)(g0:ByteArray->ByteArray)(hfl:cu w n0 fv g0)(hL:Sl w 168 5 lv lr.length (lr.flatMap cL))(hok:∀x∈lr,nI x/\(x.1.kind=1->iS w x.1.edits x.2))(hF:eE c g0 (lr.map Prod.fst))(hc:c.Ok)(hn:lr.length<1048576)(hn0:(n0+4*lr.length+136)*32<=140737488355328):
 Calls prog 90 #[Px yb] w λe w'=>(∃nb,e=.returned (Px nb)/\bM w w' nb n0 c (Ts.all c g0 (lr.map Prod.fst)))/\Bl w w':=by
 obtain⟨A,C,B,rfl⟩:=hfl.form
 have E:=hd hfl
 obtain⟨la,lc,rfl⟩:=hL.form
 have P:=hB.c 0 (I c.lanes)
 have Q:=hB.c 1 (I c.age)
 have R:=hB.c 2 (I c.batch)
 have S:=hB.c 3 (I c.window)
 have T:=hB.c 4 (I c.retries)
 have U:=hB.c 5 (I c.deadline)
 have V:=hB.c 6 (I c.queue)
 have W:=hB.c 7 (.slice A C B)
 have X:=hB.c 8 (.slice la lr.length lc)
 have K:=hd hL
 clear hB hL
 go_enter func90,ntmps90
 go_upto_region 1 with fail
 go_cut [3] from 4 (λt wz=>t=Px w.heap.size/\Bx wz w.heap.size 163 (dS c (.slice A C B) (Zn) (Zn) (Zn) (Zn) (Zn) 0 0 0)/\Bl w wz)
 case first=>
  go_region_held_law (λw'=>w'.cell? ⟨yb,0,none⟩=some (I c.lanes)/\w'.cell? ⟨yb,1,none⟩=some (I c.age)/\w'.cell? ⟨yb,2,none⟩=some (I c.batch)/\w'.cell? ⟨yb,3,none⟩=some (I c.window)/\w'.cell? ⟨yb,4,none⟩=some (I c.retries)/\w'.cell? ⟨yb,5,none⟩=some (I c.deadline)/\w'.cell? ⟨yb,6,none⟩=some (I c.queue)/\w'.cell? ⟨yb,7,none⟩=some (.slice A C B)) (go_keep) (fail)
  all_goals
   go_wp2_with fail
   go_meet
   case rel=>exact⟨rfl,Bx.new w _ _,aw _ _⟩
 obtain⟨rfl,s,f⟩:=hcut
 rename World=>wz
 have F:Hid (bM w wz w.heap.size n0 c (Ts.all c g0 [])):=⟨⟨.slice A C B,Zn,Zn,Zn,Zn,Zn,[],[],[]⟩,⟨f,Nat.le_refl _,s,E.out.later f,rfl,World.ownsRow_nil _ _ _ _,by simp,World.ownsRow_nil _ _ _ _,rfl,World.ownsRow_nil _ _ _ _,by simp,rfl,World.ownsRow_nil _ _ _ _,by simp,World.ownsRow_nil _ _ _ _⟩⟩
 have D:=hd f
 clear s f P Q R S T U V W
 go_wp2_with fail
 go_loopw [4] (λi wr=>∃k:Nat,k<=lr.length/\i=I k/\Hid (bM w wr w.heap.size n0 c (Ts.all c g0 ((lr.map Prod.fst).take k)))/\Hid (Bl w wr)) (λi _=>lr.length-(intOf i).toNat)
 case atStart=>exact⟨0,Nat.zero_le _,rfl,by simpa using F,D⟩
 obtain⟨k,hk,rfl,d,l⟩:=hrel
 have c8:=ae l.out X
 by_cases hlk:k<lr.length
 ·have z:k<(lr.map Prod.fst).length:=by rw[List.length_map];exact hlk
  have n:(lr.map Prod.fst)[k]=lr[k].1:=by simp
  have b:=hF k z
  obtain⟨h,a⟩:=(hF.take k).inv hc
  rw[List.length_take,List.length_map,Nat.min_eq_left hk] at a
  rw[n] at b
  have v:=Ea lr[k] d.out b h hc (hok _ (List.getElem_mem hlk)).1 (hok _ (List.getElem_mem hlk)).2 a (by omega) (Nat.le_trans (Nat.mul_le_mul_right 32 (by have:=a.ids;omega)) hn0)
  have p:=Ts.step_at (c:=c) (g:=g0) z
  rw[n] at p
  rw[<-p] at v
  obtain⟨g,q,H,L,_⟩:=K.out.addr (by omega)
  have hS:Hid (Sl w 168 5 (.slice (some ⟨g,q,none⟩) lr.length H) lr.length (lr.flatMap cL)):=by have:=K.out;rw[L] at this;exact this
  injection L with hva _ hvc
  subst hva hvc
  obtain⟨⟨⟨Y,en,Z,J⟩,_⟩,_⟩:=hok _ (List.getElem_mem hlk)
  have r:∀j (u:Value),j<5->(cL lr[k])[j]? =some u->wr.cell? ⟨g,q+k*5+j,none⟩=some u:=λj u hj hu=>by
   have:=hS.out.cell (j:=k*5+j) (u:=u) (by rw[aq cL 5 (λ_=>rfl) lr k j hlk hj];exact hu)
   rw[Nat.add_assoc];exact ae l.out this
  have d0:wr.cell? ⟨g,q+k*5,none⟩=some (I lr[k].1.kind):=r 0 _ (by decide) rfl
  have d1:=r 1 (I lr[k].1.lane) (by decide) rfl
  have d2:=r 2 (I lr[k].1.num) (by decide) rfl
  have d3:=r 3 (.bool lr[k].1.pass) (by decide) rfl
  have d4:=r 4 (.slice Y en Z) (by decide) (by rw[<-J];rfl)
  rw[J] at v
  obtain⟨M,o⟩:∃M,M=Ts.all c g0 ((lr.map Prod.fst).take (k+1)):=⟨_,rfl⟩
  rw[<-o] at v
  have G:=hd o
  clear o
  generalize lr[k].1.kind=r0 at *
  generalize lr[k].1.lane=r1 at *
  generalize lr[k].1.num=r2 at *
  generalize lr[k].1.pass=r3 at *
  clear J d r p n b h a
  go_wp2_with fail
  go_fit v
  rintro e w1 ⟨rfl,m⟩
  have N:=hd m
  have O:Hid (Bl w w1):=m.below
  clear m v
  go_wp2_with fail
  exact⟨⟨k+1,hlk,by go_num,by rw[<-G.out];exact N.out,O.out⟩,by simp[intOf];omega⟩
 obtain rfl:k=lr.length:=by omega
 have y:Hid (bM w wr w.heap.size n0 c (Ts.all c g0 (lr.map Prod.fst))):=by
  have:=d.out
  rw[List.take_of_length_le (by rw[List.length_map];exact Nat.le_refl _)] at this
  exact this
 clear d
 go_wp2_with fail
 go_ret
 exact⟨⟨_,rfl,y.out⟩,l.out⟩
variable{broken down:Bool}{torn:ByteArray}{keep:Int}{lr:List Lr}{yb:Nat}{fv lv:Value}{w':World}
theorem qy:(prog.info? 168).map (λi=>(i.zero,i.size,i.bytes))=some (some (.agg #[I 0,I 0,I 0,.bool false,Zn]),5,56):=by kernel_rfl
structure bJ (w:World)(yb:Nat)(c:Cfg)(fv:Value)(lr:List Lr)(torn:ByteArray)(down broken:Bool)(keep:Int)(lv:Value):Prop where
 box:Bx w yb 151 (iU c fv lv torn down broken keep)
 row:Sl w 168 5 lv lr.length (lr.flatMap cL)
theorem bJ.later (h:bJ w yb c fv lr torn down broken keep lv)(hb:Bl w w'):bJ w' yb c fv lr torn down broken keep lv:=
 ⟨(hb.block _ h.box.lt).trans h.box,h.row.later hb⟩
structure rY (w w':World)(yb:Nat)(c:Cfg)(fv:Value)(lr:List Lr)(torn:ByteArray)(down broken:Bool)(keep:Int)(lv:Value):Prop where
 ref:∃lv',bJ w' yb c fv lr torn down broken keep lv'/\(lv'.ownBlock=lv.ownBlock\/∃g,lv'.ownBlock=some g/\w.heap.size<=g)
 only:ai w w' (λk=>k=yb\/lv.ownBlock=some k)
theorem CI (yb:Nat)(c:Cfg)(fv lv:Value)(lr:List Lr)(torn:ByteArray)(down:Bool)(keep:Int)(r:Rc)(ea:Option Addr)(en ec:Nat)(w:World)(hR:bJ w yb c fv lr torn down false keep lv)(hn:lr.length<1048576):
 c_ 91 #[Px yb,.agg #[I r.kind,I r.lane,I r.num,.bool r.pass,.slice ea en ec]] w λe w'=>e=.returned (I 0)/\rY w w' yb c fv (lr++[((r,.slice ea en ec):Lr)]) torn down false keep lv:=by
 obtain⟨J,s,u,v,y⟩:=info_parts qy;obtain⟨a,b,rfl⟩:=hR.row.form;have n:=hR.row.ne hR.box (by decide);have K:Hid (lr.length+1<=maxLen):=by show _<=_;unfold maxLen;omega
 have L:Hid ((lr.length+1)*56<=140737488355328):=e_ (u_ 56 (show lr.length+1<=1048576 by omega)) (by decide);have l:=hR.later (af w (.cells #[I r.kind,I r.lane,I r.num,.bool r.pass,.slice ea en ec] 168));have j:=Bx.new w #[I r.kind,I r.lane,I r.num,.bool r.pass,.slice ea en ec] 168;have m:Hid (Bl w (w.alloc (.cells #[I r.kind,I r.lane,I r.num,.bool r.pass,.slice ea en ec] 168))):=af _ _;clear hR;go_enter func91,ntmps91;go_upto_region 1 with fail;generalize w.alloc (.cells #[I r.kind,I r.lane,I r.num,.bool r.pass,.slice ea en ec] 168)=f at *;have F:=l.box.c 11 (.bool false);have M:=l.box.c 8 (.slice a lr.length b);have G:∀o,(f.alloc o).cell? ⟨yb,8,none⟩=some (.slice a lr.length b):=λo=>(l.box.mk o).cell (i:=8) rfl;have P:=j.c 0 (I r.kind);have Q:=j.c 1 (I r.lane);have R:=j.c 2 (I r.num);have T:=j.c 3 (.bool r.pass);have U:=j.c 4 (.slice ea en ec);have A:=hd l;have H:=l.box.lt;have t:=m.out.size;clear j l;go_upto_region 2 with fail;go_region_law ((refine bp rfl _ _ 149 rfl _ J _ 5 56 underlying149 s u v y rfl (by decide) (.slice a lr.length b) _ _ rfl (Sl.mk A.out.row _) ⟨f.heap.size,0,none⟩ 1 1 [I r.kind,I r.lane,I r.num,.bool r.pass,.slice ea en ec] rfl rfl (au f _ _) (by simp[Value.oneCell']) K.out L.out ?_;intro v3 w3 hown3 hg3 hloc3;obtain⟨p,q,rfl⟩:=hown3.form;have d:Hid (Bx w3 yb 151 (iU c fv (.slice a lr.length b) torn down false keep)):=Bx.grown (A.out.box.mkd _) hg3 (λe=>n e.symm);have N:w3.cell? ⟨yb,8,none⟩=some (.slice a lr.length b):=d.out.cell (i:=8) rfl;have O:=d.out.fr 8;have E:=hd hown3;have D:Hid (f.grownBy w3 (Value.slice a lr.length b).ownBlock):=(v_ f _ _).trans ⟨hg3.os,hg3.tape,hg3.output,hg3.size,hg3.block⟩;have B:Hid ((Value.slice p (lr.length+1) q).ownBlock=(Value.slice a lr.length b).ownBlock\/∃g,(Value.slice p (lr.length+1) q).ownBlock=some g/\f.heap.size<=g):=hloc3.imp (λh=>h) (λ⟨g,h,hle⟩=>⟨g,h,e_ (jz f _) hle⟩);clear hown3 hg3 hloc3))
 all_goals
  go_wp2_with fail;go_ret
  have z:(Value.slice p (lr.length+1) q).ownBlock≠some yb:=by
   rcases B.out with e|⟨g,e,C⟩
   ·rw[e];exact n
   rw[e];intro x;cases x;omega
  refine⟨rfl,⟨.slice p (lr.length+1) q,⟨d.out.set 8 _,?_⟩,B.out.imp (λh=>h) (λ⟨g,h1,h2⟩=>⟨g,h1,e_ t h2⟩)⟩,?_⟩
  ·rw[a_,r_];have:[((r,.slice ea en ec):Lr)].flatMap cL=cL (r,.slice ea en ec):=by simp
   rw[this];exact Sl.grown E.out (ah _ _ _ _) (λg C e=>z (by rw[C];exact e.symm))
  exact((ai.of_below m.out).trans (ai.of_grown D.out (S:=λk=>k=yb\/(Value.slice a lr.length b).ownBlock=some k) λk h=>.inr h) λk h=>.inl h).set (.inl (.inl rfl))
theorem Bh (l:List UInt8)(n:Nat):(bs l).extract 0 n=bs (l.take n):=by
 apply ByteArray.ext;rw[ByteArray.data_extract];simp[bs]
def CJ (w w':World)(yb:Nat)(c:Cfg)(fv:Value)(lr:List Lr)(torn:ByteArray)(keep:Int)(lv:Value)(r:Rc)(ev:Value)(k:Nat):Prop:=
 (k=r.bytes.length/\rY w w' yb c fv (lr++[((r,ev):Lr)]) torn true false keep lv)\/(k<r.bytes.length/\rY w w' yb c fv lr (if k=0 then torn else bs (r.bytes.take k)) true false keep lv)
theorem zr (yb:Nat)(c:Cfg)(fv lv:Value)(lr:List Lr)(torn:ByteArray)(down:Bool)(keep:Int)(r:Rc)(ea:Option Addr)(en ec:Nat)(w:World)(hR:bJ w yb c fv lr torn down true keep lv)(hn:lr.length<1048576)(hr:r.ok)(hE:jZ w r ea en)(k:Nat)(hk:(k:Int)=max 0 (min keep r.bytes.length)):
 c_ 91 #[Px yb,.agg #[I r.kind,I r.lane,I r.num,.bool r.pass,.slice ea en ec]] w λe w'=>e=.returned (I 8)/\CJ w w' yb c fv lr torn keep lv r (.slice ea en ec) k:=by
 obtain⟨i0,X,ad,ag,aj⟩:=info_parts qy;obtain⟨f,j,rfl⟩:=hR.row.form;have p:=hR.row.ne hR.box (by decide);have q1:Hid (lr.length+1<=maxLen):=by show _<=_;unfold maxLen;omega
 have q2:Hid ((lr.length+1)*56<=140737488355328):=e_ (u_ 56 (show lr.length+1<=1048576 by omega)) (by decide);have W:=hR.later (af w (.cells #[I r.kind,I r.lane,I r.num,.bool r.pass,.slice ea en ec] 168));have y:=Bx.new w #[I r.kind,I r.lane,I r.num,.bool r.pass,.slice ea en ec] 168;have D:Hid (Bl w (w.alloc (.cells #[I r.kind,I r.lane,I r.num,.bool r.pass,.slice ea en ec] 168))):=af _ _
 have H:jZ (w.alloc (.cells #[I r.kind,I r.lane,I r.num,.bool r.pass,.slice ea en ec] 168)) r ea en:=λl=>by
  obtain⟨b,al,e1,e2,e3,e4,e5,e6⟩:=hE l;exact⟨b,al,e1,e2,by simp;omega,λi hi=>ae (af _ _) (e4 i hi),λi hi=>ae (af _ _) (e5 i hi),λi hi=>ae (af _ _) (e6 i hi)⟩
 have z:=oN r hr ea en ec _ H;unfold Al at z;have ar:=hR.box.lt
 have ao:r.bytes.length<2000:=by
  have:=Rc.body_lt hr;rw[Rc.bytes_eq,eG];omega
 have Q:=hd hk;clear hR hE H hk;go_enter func91,ntmps91;go_upto_region 1 with fail;generalize w.alloc (.cells #[I r.kind,I r.lane,I r.num,.bool r.pass,.slice ea en ec] 168)=w0 at *;have T:=W.box.c 11 (.bool true);have x0:=y.c 0 (I r.kind);have x1:=y.c 1 (I r.lane);have x2:=y.c 2 (I r.num);have x3:=y.c 3 (.bool r.pass);have x4:=y.c 4 (.slice ea en ec);have H0:=hd W;have v:=hd y;have ab:=D.out.size;clear y W;go_upto_region 5 with fail;go_fit z;rintro e s ⟨rfl,m⟩;have l:=H0.out.later m;have J:Bx s w.heap.size 168 #[I r.kind,I r.lane,I r.num,.bool r.pass,.slice ea en ec]:=(m.block _ v.out.lt).trans v.out;have P:Hid (Bl w s):=D.out.trans (m.mono ab);have U:=l.box.fr 10;have V:=l.box.fr 11;have R:=l.box.c 10 (.bool down);have F:=l.box.c 11 (.bool true);have O:=hd l;have E:=hd J;clear l J m z H0 v x0 x1 x2 x3 x4 T;go_upto_region 7 with fail;have a:Bx ((s.setCell ⟨yb,10,none⟩ (.bool true)).setCell ⟨yb,11,none⟩ (.bool false)) yb 151 (iU c fv (.slice f lr.length j) torn true false keep):=(O.out.box.set 10 (.bool true)).set 11 (.bool false);have A:s.grownBy ((s.setCell ⟨yb,10,none⟩ (.bool true)).setCell ⟨yb,11,none⟩ (.bool false)) (some yb):=(ah _ _ _ _).trans (ah _ _ _ _);have C:Hid (bJ ((s.setCell ⟨yb,10,none⟩ (.bool true)).setCell ⟨yb,11,none⟩ (.bool false)) yb c fv lr torn true false keep (.slice f lr.length j)):=⟨a,O.out.row.grown A (λg B e=>p (by rw[B];exact e.symm))⟩;have d:Bx ((s.setCell ⟨yb,10,none⟩ (.bool true)).setCell ⟨yb,11,none⟩ (.bool false)) w.heap.size 168 #[I r.kind,I r.lane,I r.num,.bool r.pass,.slice ea en ec]:=E.out.grown A (by simp;omega);have L:Hid (ai w ((s.setCell ⟨yb,10,none⟩ (.bool true)).setCell ⟨yb,11,none⟩ (.bool false)) (λk=>k=yb\/(Value.slice f lr.length j).ownBlock=some k)):=((ai.of_below P.out).set (.inl (.inl rfl))).set (.inl (.inl rfl));generalize (s.setCell ⟨yb,10,none⟩ (.bool true)).setCell ⟨yb,11,none⟩ (.bool false)=t at *;have am:=a.c 12 (I keep);have d9:=a.c 9 (.string torn);have f9:=a.fr 9;have d8:=a.c 8 (.slice f lr.length j);have an:∀o,(t.alloc o).cell? ⟨yb,8,none⟩=some (.slice f lr.length j):=λo=>(a.mk o).cell (i:=8) rfl;have y0:=d.c 0 (I r.kind);have y1:=d.c 1 (I r.lane);have y2:=d.c 2 (I r.num);have y3:=d.c 3 (.bool r.pass);have y4:=d.c 4 (.slice ea en ec);have ac:Hid (w.heap.size<=t.heap.size):=L.out.size;have aq:=a.lt;have q:(bs r.bytes).size=r.bytes.length:=bh _;clear a A d O E U V R F;by_cases g1:(r.bytes.length:Int)<=keep
 ·have Y:k=r.bytes.length:=by have:=Q.out;omega
  subst Y;have G:((bs r.bytes).size:Int)<=keep:=by rw[q];exact g1
  go_upto_region 8 with fail;go_region_law ((refine bp rfl _ _ 149 rfl _ i0 _ 5 56 underlying149 X ad ag aj rfl (by decide) (.slice f lr.length j) _ _ rfl (Sl.mk C.out.row _) ⟨t.heap.size,0,none⟩ 1 1 [I r.kind,I r.lane,I r.num,.bool r.pass,.slice ea en ec] rfl rfl (au t _ _) (by simp[Value.oneCell']) q1.out q2.out ?_;intro v3 w3 hown3 hg3 hloc3;obtain⟨M,N,rfl⟩:=hown3.form;have u:Hid (Bx w3 yb 151 (iU c fv (.slice f lr.length j) torn true false keep)):=Bx.grown (C.out.box.mkd _) hg3 (λe=>p e.symm);have e8:w3.cell? ⟨yb,8,none⟩=some (.slice f lr.length j):=u.out.cell (i:=8) rfl;have f3:=u.out.fr 8;have O3:=hd hown3;have G3:Hid (t.grownBy w3 (Value.slice f lr.length j).ownBlock):=(v_ t _ _).trans ⟨hg3.os,hg3.tape,hg3.output,hg3.size,hg3.block⟩;have L3:Hid ((Value.slice M (lr.length+1) N).ownBlock=(Value.slice f lr.length j).ownBlock\/∃g,(Value.slice M (lr.length+1) N).ownBlock=some g/\t.heap.size<=g):=hloc3.imp (λh=>h) (λ⟨g,h,hle⟩=>⟨g,h,e_ (jz t _) hle⟩);clear hown3 hg3 hloc3))
  all_goals
   go_wp2_with fail;go_ret
   have ak:(Value.slice M (lr.length+1) N).ownBlock≠some yb:=by
    rcases L3.out with e|⟨g,e,B⟩
    ·rw[e];exact p
    rw[e];intro x;cases x;omega
   refine⟨rfl,.inl ⟨rfl,⟨.slice M (lr.length+1) N,⟨u.out.set 8 _,?_⟩,L3.out.imp (λh=>h) (λ⟨g,l,h2⟩=>⟨g,l,e_ ac.out h2⟩)⟩,?_⟩⟩
   ·rw[a_,r_];have:[((r,.slice ea en ec):Lr)].flatMap cL=cL (r,.slice ea en ec):=by simp
    rw[this];exact Sl.grown O3.out (ah _ _ _ _) (λg B e=>ak (by rw[B];exact e.symm))
   exact(L.out.trans (ai.of_grown G3.out (S:=λk=>k=yb\/(Value.slice f lr.length j).ownBlock=some k) λk h=>.inr h) λk h=>.inl h).set (.inl (.inl rfl))
 by_cases g2:0<keep
 ·obtain⟨n,rfl⟩:∃n:Nat,keep=n:=⟨keep.toNat,by omega⟩;obtain rfl:n=k:=by have:=Q.out;omega
  have Z:n<r.bytes.length:=by omega
  have aa:¬n=0:=by omega
  have G:¬(((bs r.bytes).size:Int)<=(n:Int)):=by rw[q];exact g1
  have ap:n<=(bs r.bytes).size:=by rw[q];omega
  have HT:Hid ((bs r.bytes).extract 0 n=bs (r.bytes.take n)):=Bh _ _;go_wp2_with fail;go_ret;refine⟨rfl,.inr ⟨Z,⟨.slice f lr.length j,⟨?_,?_⟩,.inl rfl⟩,L.out.set (.inl (.inl rfl))⟩⟩
  ·rw[if_neg aa,<-HT.out];exact C.out.box.set 9 _
  exact C.out.row.grown (ah _ _ _ _) (λg B e=>p (by rw[B];exact e.symm))
 obtain rfl:k=0:=by have:=Q.out;omega
 have K:0<r.bytes.length:=by rw[Rc.bytes_eq,eG];omega
 have G:¬(((bs r.bytes).size:Int)<=keep):=by rw[q];exact g1
 go_wp2_with fail;go_ret;exact⟨rfl,.inr ⟨K,⟨_,by rw[if_pos rfl];exact C.out,.inl rfl⟩,L.out⟩⟩
theorem r7 (yb:Nat)(c:Cfg)(fv lv:Value)(lr:List Lr)(torn:ByteArray)(broken:Bool)(keep k:Int)(w:World)(hR:bJ w yb c fv lr torn true broken keep lv):
 c_ 49 #[Px yb,I k] w λe w'=>e=.returned (I 8)/\w'=w:=by
 have a:=hR.box.c 10 (.bool true);clear hR;go_enter func49,ntmps49;go_wp2_with fail;go_ret;exact⟨rfl,rfl⟩
theorem wW (yb:Nat)(c:Cfg)(fv lv:Value)(lr:List Lr)(torn:ByteArray)(broken:Bool)(keep k:Int)(w:World)(hR:bJ w yb c fv lr torn false broken keep lv):
 c_ 49 #[Px yb,I k] w λe w'=>e=.returned (I 0)/\bJ w' yb c fv lr torn false true k lv/\ai w w' (λj=>j=yb):=by
 have b:=hR.box.c 10 (.bool false);have d:=hR.box.c 11 (.bool broken);have f:=hR.box.c 12 (I keep);have i:=hR.box.fr 11;have l:=hR.box.fr 12;have a:=hd hR;clear hR;go_enter func49,ntmps49;go_wp2_with fail;go_ret;have h:=a.out;exact⟨rfl,⟨(h.box.set 11 (.bool true)).set 12 (I k),h.row.grown ((ah _ _ _ _).trans (ah _ _ _ _)) (λg hg e=>(h.row.ne h.box (by decide)) (by rw[hg];exact e.symm))⟩,((ai.refl w (λj=>j=yb)).set (.inl rfl)).set (.inl rfl)⟩
theorem rZ (yb:Nat)(c:Cfg)(fv lv:Value)(lr:List Lr)(torn:ByteArray)(broken:Bool)(keep:Int)(w:World)(hR:bJ w yb c fv lr torn true broken keep lv):
 c_ 51 #[Px yb] w λe w'=>e=.returned (I 8)/\w'=w:=by
 have a:=hR.box.c 10 (.bool true);clear hR;go_enter func51,ntmps51;go_wp2_with fail;go_ret;exact⟨rfl,rfl⟩
theorem wV (yb:Nat)(c:Cfg)(fv lv:Value)(lr:List Lr)(torn:ByteArray)(broken:Bool)(keep:Int)(w:World)(hR:bJ w yb c fv lr torn false broken keep lv):
 c_ 51 #[Px yb] w λe w'=>e=.returned (I 0)/\bJ w' yb c fv lr torn true false keep lv/\ai w w' (λj=>j=yb):=by
 have b:=hR.box.c 10 (.bool false);have d:=hR.box.c 11 (.bool broken);have f:=hR.box.fr 10;have i:=hR.box.fr 11;have a:=hd hR;clear hR;go_enter func51,ntmps51;go_wp2_with fail;go_ret;have h:=a.out;exact⟨rfl,⟨(h.box.set 10 (.bool true)).set 11 (.bool false),h.row.grown ((ah _ _ _ _).trans (ah _ _ _ _)) (λg hg e=>(h.row.ne h.box (by decide)) (by rw[hg];exact e.symm))⟩,((ai.refl w (λj=>j=yb)).set (.inl rfl)).set (.inl rfl)⟩
theorem sd (yb:Nat)(c:Cfg)(fv lv:Value)(lr:List Lr)(torn:ByteArray)(broken:Bool)(keep:Int)(w:World)(hR:bJ w yb c fv lr torn false broken keep lv):
 c_ 52 #[Px yb] w λe w'=>e=.returned (I 9)/\w'=w:=by
 have a:=hR.box.c 10 (.bool false);clear hR;go_enter func52,ntmps52;go_wp2_with fail;go_ret;exact⟨rfl,rfl⟩
theorem ub (yb:Nat)(c:Cfg)(fv lv:Value)(lr:List Lr)(torn:ByteArray)(broken:Bool)(keep:Int)(w:World)(hR:bJ w yb c fv lr torn true broken keep lv):
 c_ 57 #[Px yb] w λe w'=>e=.returned (.tuple #[.agg #[I 0,I 0,I 0],I 8])/\Bl w w':=by
 have a:=hR.box.c 10 (.bool true);have b:=hR.box.lt;clear hR;go_enter func57,ntmps57;go_wp2_with fail;refine bodyPost_ret (by simp[results,results57,go_sem];rfl) rfl ⟨by rfl,?_⟩;exact af _ _
variable{g0:ByteArray->ByteArray}
structure dw (w:World)(c:Cfg)(g0:ByteArray->ByteArray)(n0:Nat)(fv:Value)(lr:List Lr):Prop where
 fl:cu w n0 fv g0
 ok:∀x∈lr,nI x/\(x.1.kind=1->iS w x.1.edits x.2)
 fits:eE c g0 (lr.map Prod.fst)
 len:lr.length<1048576
 room:(n0+4*lr.length+136)*32<=140737488355328
theorem dw.later (h:dw w c g0 n0 fv lr)(hb:Bl w w'):dw w' c g0 n0 fv lr:=⟨h.fl.later hb,λx hx=>⟨(h.ok x hx).1,λhk=>((h.ok x hx).2 hk).later hb⟩,h.fits,h.len,h.room⟩
def Fh (w:World)(base nb:Nat)(c:Cfg)(s:Ts):Prop:=∃q idv qv ov tip mv sv,ky w base nb c tip mv sv s q idv qv ov
theorem ji (hR:bJ w yb c fv lr torn down broken keep lv)(hF:dw w c g0 n0 fv lr)(hc:c.Ok):
 c_ 90 #[Px yb] w λe w'=>(∃nb,e=.returned (Px nb)/\bM w w' nb n0 c (Ts.all c g0 (lr.map Prod.fst)))/\Bl w w':=
 Fg yb c fv lv torn down broken keep lr w hR.box n0 g0 hF.fl hR.row hF.ok hF.fits hc hF.len hF.room
theorem nJ (hR:bJ w yb c fv lr torn down broken keep lv)(hF:dw w c g0 n0 fv lr)(hc:c.Ok):
 c_ 90 #[Px yb] w λe w'=>(∃nb,e=.returned (Px nb)/\Fh w' w.heap.size nb c (Ts.all c g0 (lr.map Prod.fst)))/\Bl w w':=by
 refine(ji hR hF hc).mono ?_;rintro e w' ⟨⟨nb,rfl,z,h⟩,a⟩;exact⟨⟨nb,rfl,_,_,_,_,_,_,_,h.q⟩,a⟩
theorem ue (yb:Nat)(c:Cfg)(fv lv:Value)(lr:List Lr)(torn:ByteArray)(broken:Bool)(keep:Int)(w:World)(hR:bJ w yb c fv lr torn false broken keep lv)(g0:ByteArray->ByteArray)(n0:Nat)(hF:dw w c g0 n0 fv lr)(hc:c.Ok)(ha:(Ts.all c g0 (lr.map Prod.fst)).acked=(Ts.all c g0 (lr.map Prod.fst)).outs.length):
 c_ 57 #[Px yb] w λe w'=>e=.returned (.tuple #[.agg #[I 0,I 0,I 0],I 5])/\Bl w w':=by
 have r:=hR.box.c 10 (.bool false);have l:=nJ (hR.later (af w (.cells #[I 0,I 0,I 0] 99))) (hF.later (af w (.cells #[I 0,I 0,I 0] 99))) hc;have y:=hR.box.lt;generalize Ts.all c g0 (lr.map Prod.fst)=s at l ha;clear hR hF;go_enter func57,ntmps57;go_wp2_with fail;go_fit l;rintro e d ⟨⟨n,rfl,q,z,J,H,B,G,K,h⟩,a⟩;obtain⟨o,b,rfl⟩:=ag h.outs;have m:=h.box.c 13 (I s.acked);have A:=h.box.c 12 (.slice o s.outs.length b);have C:d.cell? ⟨w.heap.size,0,none⟩=some (I 0):=ae a (by simp);have D:d.cell? ⟨w.heap.size,1,none⟩=some (I 0):=ae a (by simp);have E:d.cell? ⟨w.heap.size,2,none⟩=some (I 0):=ae a (by simp);have j:Bx d w.heap.size 99 #[I 0,I 0,I 0]:=(a.block _ (by simp)).trans (Bx.new w #[I 0,I 0,I 0] 99);have F:∀i,d.frozen? ⟨w.heap.size,i,none⟩=false:=λi=>j.fr i;have k:=hd j;have p:Hid (Bl w d):=(af _ _).trans (a.mono (by simp));rw[ha] at m;clear h a l j ha;go_upto_region 4 with fail;go_region_held_law (λw'=>w'.cell? ⟨n,13,none⟩=some (I s.outs.length)/\w'.cell? ⟨n,12,none⟩=some (.slice o s.outs.length b)) (go_keep) (fail)
 all_goals
  go_wp2_with fail;have g:=((k.out.set 0 (I 0)).set 1 (I 0)).set 2 (I 0);simp only[P_,List.set_cons_zero,List.set_cons_succ] at g;have f:=ao (ao (ao p.out (b_ _) 0 (I 0)) (b_ _) 1 (I 0)) (b_ _) 2 (I 0);generalize ((d.setCell ⟨w.heap.size,0,none⟩ (I 0)).setCell ⟨w.heap.size,1,none⟩ (I 0)).setCell ⟨w.heap.size,2,none⟩ (I 0)=W at *;have t:=g.c 0 (I 0);have u:=g.c 1 (I 0);have x:=g.c 2 (I 0);exact bodyPost_ret (v:=.tuple #[.agg #[I 0,I 0,I 0],I 5]) (by simp[results,results57,go_sem,t,u,x]) rfl ⟨rfl,f.os,f.tape,f.output,f.size,f.block⟩
theorem zt:∀(l:List (Nat×Nat)) (k i:Nat) (h:i<l.length) (j:Nat),j<3->(oc k l)[i*3+j]? =[(I (((k+i:Nat):Int)+1):Value),I l[i].1,I l[i].2][j]?
 |[],_,_,h,_,_=>by simp at h
 |o::l,k,0,_,j,hj=>by
  rw[oc,V_ (by simp;omega)];simp
 |o::l,k,i+1,h,j,hj=>by
  rw[oc,List.getElem?_append_right (by simp;omega)]
  have e:(i+1)*3+j-[(I ((k:Int)+1):Value),I o.1,I o.2].length=i*3+j:=by simp;omega
  rw[e,zt l (k+1) i (by simpa using h) j hj]
  have a:k+1+i=k+(i+1):=by omega
  rw[a];rfl
theorem ud (yb:Nat)(c:Cfg)(fv lv:Value)(lr:List Lr)(torn:ByteArray)(broken:Bool)(keep:Int)(w:World)(hR:bJ w yb c fv lr torn false broken keep lv)(g0:ByteArray->ByteArray)(n0:Nat)(hF:dw w c g0 n0 fv lr)(hc:c.Ok)(s:Ts)(hs:s=Ts.all c g0 (lr.map Prod.fst))(ha:s.acked<s.outs.length)(hol:s.outs.length<1048576):
 c_ 57 #[Px yb] w λe w'=>e=.returned (.tuple #[.agg #[I ((s.acked:Int)+1),I (s.outs[s.acked]'ha).1,I (s.outs[s.acked]'ha).2],I 0])/\Bl w w':=by
 have E:=hR.box.c 10 (.bool false);have y:=nJ (hR.later (af w (.cells #[I 0,I 0,I 0] 99))) (hF.later (af w (.cells #[I 0,I 0,I 0] 99))) hc;have M:=hR.box.lt;rw[<-hs] at y;obtain⟨o,B⟩:∃o,s.outs[s.acked]'ha=o:=⟨_,rfl⟩;rw[B];have r:=hd B;clear hR hF hs B;go_enter func57,ntmps57;go_wp2_with fail;go_fit y;rintro e d ⟨⟨g,rfl,q,N,qv,Z,Q,Y,sv,h⟩,a⟩;obtain⟨go,f,b,rfl,_,_⟩:=(Sl.of_row h.outs).addr (by omega);have P:=h.box.c 13 (I s.acked);have O:=h.box.c 12 (s_ go f s.outs.length b)
 have m:∀j (u:Value),j<3->[(I (((0+s.acked:Nat):Int)+1):Value),I o.1,I o.2][j]? =some u->d.cell? ⟨go,f+s.acked*3+j,none⟩=some u:=λj u hj hu=>by
  rw[J_];exact(Sl.of_row h.outs).cell (by rw[zt s.outs 0 s.acked ha j hj,r.out];exact hu)
 have u0:d.cell? ⟨go,f+s.acked*3,none⟩=some (I ((s.acked:Int)+1)):=m 0 _ (by decide) (by simp);have R:=m 1 _ (by decide) rfl;have S:=m 2 _ (by decide) rfl;have T:d.cell? ⟨w.heap.size,0,none⟩=some (I 0):=ae a (by simp);have U:d.cell? ⟨w.heap.size,1,none⟩=some (I 0):=ae a (by simp);have V:d.cell? ⟨w.heap.size,2,none⟩=some (I 0):=ae a (by simp);have n:Bx d w.heap.size 99 #[I 0,I 0,I 0]:=(a.block _ (by simp)).trans (Bx.new w #[I 0,I 0,I 0] 99);have X:∀i,d.frozen? ⟨w.heap.size,i,none⟩=false:=λi=>n.fr i;have p:=hd n;have D:Hid (Bl w d):=(af _ _).trans (a.mono (by simp))
 have z:go≠w.heap.size:=λe=>by
  have x:=(f_ h.outs go rfl).1;simp at x;omega
 have A:g≠w.heap.size:=λe=>by
  have x:=h.low;simp at x;omega
 have J:(s.acked:Int)<(s.outs.length:Int):=by omega
 have C:((s.acked:Int)==(s.outs.length:Int))=false:=by simp;omega
 clear h a y n m;go_upto_region 4 with fail;go_cut [21] from 5 (λt wz=>t=.bool false/\wz=d.drew)
 case first=>
  go_region_held_law (λw'=>w'.cell? ⟨g,13,none⟩=some (I s.acked)/\w'.cell? ⟨g,12,none⟩=some (s_ go f s.outs.length b)) (go_keep) (fail)
  all_goals
   go_wp2_with fail;go_meet
   case rel=>exact⟨rfl,rfl⟩
 obtain⟨rfl,rfl⟩:=hcut;have K:w.heap.size≠go:=z.symm;have L:w.heap.size≠g:=A.symm;go_wp2_with fail;go_region_held_law (λw'=>w'.cell? ⟨g,13,none⟩=some (I s.acked)/\w'.cell? ⟨g,12,none⟩=some (s_ go f s.outs.length b)/\w'.cell? ⟨go,f+s.acked*3,none⟩=some (I ((s.acked:Int)+1))/\w'.cell? ⟨go,f+s.acked*3+1,none⟩=some (I o.1)/\w'.cell? ⟨go,f+s.acked*3+2,none⟩=some (I o.2)) (go_keep) (fail)
 all_goals
  go_wp2_with fail;have l:=((p.out.set 0 (I ((s.acked:Int)+1))).set 1 (I o.1)).set 2 (I o.2);simp only[P_,List.set_cons_zero,List.set_cons_succ] at l;have k:=ao (ao (ao D.out (b_ _) 0 (I ((s.acked:Int)+1))) (b_ _) 1 (I o.1)) (b_ _) 2 (I o.2);generalize ((d.setCell ⟨w.heap.size,0,none⟩ (I ((s.acked:Int)+1))).setCell ⟨w.heap.size,1,none⟩ (I o.1)).setCell ⟨w.heap.size,2,none⟩ (I o.2)=W at *;have F:=l.c 0 (I ((s.acked:Int)+1));have G:=l.c 1 (I o.1);have H:=l.c 2 (I o.2);exact bodyPost_ret (v:=.tuple #[.agg #[I ((s.acked:Int)+1),I o.1,I o.2],I 0]) (by simp[results,results57,go_sem,F,G,H]) rfl ⟨rfl,k.os,k.tape,k.output,k.size,k.block⟩
theorem qz (yb:Nat)(c:Cfg)(fv lv:Value)(lr:List Lr)(torn:ByteArray)(broken:Bool)(keep id:Int)(w:World)(hR:bJ w yb c fv lr torn true broken keep lv):
 c_ 41 #[Px yb,I id] w λe w'=>e=.returned (I 8)/\w'=w:=by
 have a:=hR.box.c 10 (.bool true);clear hR;go_enter func41,ntmps41;go_wp2_with fail;go_ret;exact⟨rfl,rfl⟩
def wX (w w':World)(e:Ending)(ex:Prop)(k:Int)(R:World->World->Prop):Prop:=
 (¬ex/\e=.returned (I 5)/\Bl w w')\/(ex/\e=.returned (I k)/\∃W,Bl w W/\R W w')
theorem uf (yb:Nat)(c:Cfg)(fv lv:Value)(lr:List Lr)(torn:ByteArray)(broken:Bool)(keep id k:Int)(R:World->World->Prop)(w:World)(hR:bJ w yb c fv lr torn false broken keep lv)(g0:ByteArray->ByteArray)(n0:Nat)(hF:dw w c g0 n0 fv lr)(hc:c.Ok)(s:Ts)(hs:s=Ts.all c g0 (lr.map Prod.fst))(hW:(∃x∈s.queue,(x.id:Int)=id)->∀W,Bl w W->c_ 91 #[Px yb,.agg #[I 2,I 0,I id,.bool false,Zn]] W λe w'=>e=.returned (I k)/\R W w'):
 c_ 41 #[Px yb,I id] w λe w'=>wX w w' e (∃x∈s.queue,(x.id:Int)=id) k R:=by
 have P:=hR.box.c 10 (.bool false);have E:=nJ hR hF hc;have b:s.queue.length<=16:=by rw[hs];exact e_ (hF.fits.inv hc).1.len hc.2.2.2.2.2.2.2
 rw[<-hs] at E;have H:=hd hW;obtain⟨p,v⟩:∃p:Prop,p=∃x∈s.queue,(x.id:Int)=id:=⟨_,rfl⟩;rw[<-v] at H ⊢;have G:Hid (p↔∃x∈s.queue,(x.id:Int)=id):=by rw[v];exact Iff.rfl
 clear hR hF hs hW v;go_enter func41,ntmps41;go_wp2_with fail;go_fit E;rintro e w1 ⟨⟨nb,rfl,q,Z,qv,ov,ab,mv,sv,h⟩,t⟩
 have n:Hid (p↔∃x∈q,(x.1.id:Int)=id):=by
  refine G.out.trans ?_;rw[<-h.qs];constructor
  ·rintro⟨x,A,u⟩;obtain⟨y,Y,rfl⟩:=q_.1 A;exact⟨y,Y,u⟩
  rintro⟨x,A,u⟩;exact⟨x.1,q_.2 ⟨x,A,rfl⟩,u⟩
 have X:q.length<=16:=by rw[<-d_ (f:=Prod.fst),h.qs];exact b
 obtain⟨M,B,rfl⟩:=ag h.row;have aa:=h.box.c 10 (.slice M q.length B);have a:=hd (h.row);have d:=hd t;clear h E G t b;go_wp2_with fail;go_loopw [6] (λi wr=>∃j:Nat,j<=q.length/\i=I j/\wr=w1/\Hid (∀m (h:m<j) (h':m<q.length),(q[m].1.id:Int)≠id)) (λi _=>q.length-(intOf i).toNat)
 case atStart=>exact⟨0,k_ _,rfl,rfl,λm h=>by omega⟩
 obtain⟨j,hj,rfl,rfl,l⟩:=hrel;by_cases hlj:j<q.length
 ·obtain⟨g,F⟩:∃g,M=some ⟨g,0,none⟩:=by
   rcases a.out.2 with ⟨_,h0⟩|⟨g,Q,S,e,_⟩
   ·omega
   injection e with e _ _;exact⟨g,e⟩
  subst F
  have d0:wr.cell? ⟨g,j*4,none⟩=some (I q[j].1.id):=by
   have T:=World.ownsRow.cells (g:=g) a.out rfl;have U:=aq cW 4 (λ_=>rfl) (q.map wt) j 0 (by rw[d_];exact hlj) (by decide);have K:=T (j*4+0) (I q[j].1.id) (by rw[U];simp[cW,wt]);rw[bE,O_,Nat.add_zero] at K;exact K
  have O:Hid ((q[j].1.id:Int)=id->p):=λh=>n.out.2 ⟨q[j],i_ hlj,h⟩
  have N:Hid ((q[j].1.id:Int)≠id->∀m (h:m<j+1) (h':m<q.length),(q[m].1.id:Int)≠id):=λh m L hm'=>by
   by_cases e:m=j
   ·subst e;exact h
   exact l.out m (by omega) hm'
  generalize q[j].1.id=J at *;clear l;by_cases hid:(J:Int)=id
  ·have z:Hid p:=O.out hid;have r:=H.out z.out wr d.out;subst hid;go_wp2_with fail;go_fit r;rintro e w2 ⟨rfl,o⟩;have C:=hd o;clear o r;go_wp2_with fail;go_ret;exact .inr ⟨z.out,rfl,wr,d.out,C.out⟩
  have V:((J:Int)==id)=false:=by simpa using hid
  go_wp2_with fail;exact⟨⟨j+1,hlj,by go_num,by first|exact rfl|exact trivial,N.out hid⟩,by simp[intOf];omega⟩
 have D:Hid (¬p):=λv=>by
  obtain⟨x,A,u⟩:=n.out.1 v;obtain⟨m,L,rfl⟩:=Q_.1 A;exact l.out m (by omega) L u
 go_wp2_with fail;go_ret;exact .inl ⟨D.out,rfl,d.out⟩
theorem se (yb:Nat)(n k a b d:Int)(hk:k≠0)(w:World)(hP:c_ 57 #[Px yb] w λe w'=>e=.returned (.tuple #[.agg #[I a,I b,I d],I k])/\Bl w w'):
 c_ 93 #[Px yb,I n] w λe w'=>e=.returned (I k)/\Bl w w':=by
 have g:(k==0)=false:=by simpa using hk
 go_enter func93,ntmps93;go_wp2_with fail;go_fit hP;rintro e h ⟨rfl,c⟩;have f:=hd c;clear c hP;go_wp2_with fail;go_ret;exact⟨rfl,f.out.trans ((af _ _).mono f.out.size)⟩
theorem Bj (yb:Nat)(n a b d:Int)(hn:a≠n)(w:World)(hP:c_ 57 #[Px yb] w λe w'=>e=.returned (.tuple #[.agg #[I a,I b,I d],I 0])/\Bl w w'):
 c_ 93 #[Px yb,I n] w λe w'=>e=.returned (I 5)/\Bl w w':=by
 have g:(a==n)=false:=by simpa using hn
 go_enter func93,ntmps93;go_wp2_with fail;go_fit hP;rintro e h ⟨rfl,c⟩;have f:=hd c;clear c hP;go_wp2_with fail;go_ret;exact⟨rfl,f.out.trans ((af _ _).mono f.out.size)⟩
theorem Bi (yb:Nat)(n k b d:Int)(R:World->World->Prop)(w:World)(hP:c_ 57 #[Px yb] w λe w'=>e=.returned (.tuple #[.agg #[I n,I b,I d],I 0])/\Bl w w')(hW:∀W,Bl w W->c_ 91 #[Px yb,.agg #[I 6,I 0,I n,.bool false,Zn]] W λe w'=>e=.returned (I k)/\R W w'):
 c_ 93 #[Px yb,I n] w λe w'=>e=.returned (I k)/\∃W,Bl w W/\R W w':=by
 have i:=hd hW;clear hW;go_enter func93,ntmps93;go_wp2_with fail;go_fit hP;rintro e j ⟨rfl,a⟩;have h:Hid (Bl w (j.alloc (.cells #[I n,I b,I d] 99))):=a.trans ((af _ _).mono a.size);have f:=i.out _ h.out;clear a hP i;go_wp2_with fail;go_fit f;rintro e l ⟨rfl,c⟩;have g:=hd c;clear c f;go_wp2_with fail;go_ret;exact⟨rfl,_,h.out,g.out⟩
theorem oH (yb:Nat)(c:Cfg)(fv lv:Value)(lr:List Lr)(torn:ByteArray)(broken:Bool)(keep:Int)(w:World)(hR:bJ w yb c fv lr torn true broken keep lv)(hn:lr.length<1048576):
 c_ 52 #[Px yb] w λe w'=>e=.returned (I 0)/\rY w w' yb c fv (lr++[((⟨7,0,0,false,[]⟩,Zn):Lr)]) ⟨#[]⟩ false broken keep lv:=by
 obtain⟨J,t,v,y,z⟩:=info_parts qy;obtain⟨a,b,rfl⟩:=hR.row.form;have f:=hR.row.ne hR.box (by decide);have K:Hid (lr.length+1<=maxLen):=by show _<=_;unfold maxLen;omega
 have L:Hid ((lr.length+1)*56<=140737488355328):=e_ (u_ 56 (show lr.length+1<=1048576 by omega)) (by decide);have r:=hR.box.c 10 (.bool true);have F:=hR.box.c 9 (.string torn);have s:=hR.box.fr 10;have G:=hR.box.fr 9;have j:=(hR.box.set 10 (.bool false)).set 9 (.string ⟨#[]⟩);have l:w.grownBy ((w.setCell ⟨yb,10,none⟩ (.bool false)).setCell ⟨yb,9,none⟩ (.string ⟨#[]⟩)) (some yb):=(ah _ _ _ _).trans (ah _ _ _ _);have n:Hid (bJ ((w.setCell ⟨yb,10,none⟩ (.bool false)).setCell ⟨yb,9,none⟩ (.string ⟨#[]⟩)) yb c fv lr ⟨#[]⟩ false broken keep (.slice a lr.length b)):=⟨j,hR.row.grown l (λg q e=>f (by rw[q];exact e.symm))⟩;have C:Hid (ai w ((w.setCell ⟨yb,10,none⟩ (.bool false)).setCell ⟨yb,9,none⟩ (.string ⟨#[]⟩)) (λk=>k=yb\/(Value.slice a lr.length b).ownBlock=some k)):=((ai.refl w _).set (.inl (.inl rfl))).set (.inl (.inl rfl));clear hR j l;go_enter func52,ntmps52;go_upto_region 5 with fail;generalize (w.setCell ⟨yb,10,none⟩ (.bool false)).setCell ⟨yb,9,none⟩ (.string ⟨#[]⟩)=m at *;have M:=n.out.box.c 8 (.slice a lr.length b);have u:=hd (C.out.size);have H:=n.out.box.lt;clear r F s G;go_wp2_with (at_builtin;refine cH _ rfl _ _ 149 rfl _ J _ 5 56 underlying149 t v y z rfl (by decide) (.slice a lr.length b) _ _ rfl (Sl.mk n.out.row _) ⟨m.heap.size,0,none⟩ 1 1 [I 7,I 0,I 0,.bool false,Zn] rfl rfl (au m _ _) (by simp[Value.oneCell']) K.out L.out ?_;intro v3 w3 hown3 hg3 hloc3;obtain⟨o,p,rfl⟩:=hown3.form;have d:Hid (Bx w3 yb 151 (iU c fv (.slice a lr.length b) ⟨#[]⟩ false broken keep)):=Bx.grown (n.out.box.mk _) hg3 (λe=>f e.symm);have N:w3.cell? ⟨yb,8,none⟩=some (.slice a lr.length b):=d.out.cell (i:=8) rfl;have O:=d.out.fr 8;have E:=hd hown3;have D:Hid (m.grownBy w3 (Value.slice a lr.length b).ownBlock):=(v_ m _ _).trans hg3;have B:Hid ((Value.slice o (lr.length+1) p).ownBlock=(Value.slice a lr.length b).ownBlock\/∃g,(Value.slice o (lr.length+1) p).ownBlock=some g/\m.heap.size<=g):=hloc3.imp (λh=>h) (λ⟨g,h,hle⟩=>⟨g,h,e_ (by simp) hle⟩);clear hown3 hg3 hloc3);go_ret
 have A:(Value.slice o (lr.length+1) p).ownBlock≠some yb:=by
  rcases B.out with e|⟨g,e,q⟩
  ·rw[e];exact f
  rw[e];intro x;cases x;omega
 refine⟨rfl,⟨.slice o (lr.length+1) p,⟨d.out.set 8 _,?_⟩,B.out.imp (λh=>h) (λ⟨g,h1,h2⟩=>⟨g,h1,e_ u.out h2⟩)⟩,?_⟩
 ·rw[a_,r_];have:[((⟨7,0,0,false,[]⟩,Zn):Lr)].flatMap cL=[I 7,I 0,I 0,.bool false,Zn]:=by simp[cL]
  rw[this];exact Sl.grown E.out (ah _ _ _ _) (λg q e=>A (by rw[q];exact e.symm))
 exact(C.out.trans (ai.of_grown D.out (S:=λk=>k=yb\/(Value.slice a lr.length b).ownBlock=some k) λk h=>.inr h) λk h=>.inl h).set (.inl (.inl rfl))
theorem zA (yb:Nat)(c:Cfg)(fv lv:Value)(lr:List Lr)(torn:ByteArray)(broken:Bool)(keep:Int)(w:World)(hR:bJ w yb c fv lr torn false broken keep lv)(g0:ByteArray->ByteArray)(n0:Nat)(hF:dw w c g0 n0 fv lr)(hc:c.Ok):
 c_ 134 #[Px yb] w λe w'=>(∃v,e=.returned (.tuple #[v,I 0])/\cu w' (n0+4*(Ts.all c g0 (lr.map Prod.fst)).outs.length) v (Ts.all c g0 (lr.map Prod.fst)).tip)/\Bl w w':=by
 have n:=hR.box.c 10 (.bool false);have j:=ji hR hF hc;generalize Ts.all c g0 (lr.map Prod.fst)=s at j ⊢;clear hR hF;go_enter func134,ntmps134;go_wp2_with fail;go_fit j;rintro e k ⟨⟨o,rfl,z,h⟩,b⟩;obtain⟨d,g,f,a⟩:=h.tip.form;have p:k.cell? ⟨o,7,none⟩=some (.slice d g f):=by rw[<-a];exact h.box.cell (i:=7) rfl
 have m:Hid (cu k (n0+4*s.outs.length) (.slice d g f) s.tip):=by rw[<-a];exact h.tip
 have l:=hd b;clear h b j a;go_wp2_with fail;exact bodyPost_ret (v:=.tuple #[.slice d g f,I 0]) (by simp[results,results134,go_sem]) rfl ⟨⟨_,rfl,m.out⟩,l.out⟩
theorem zB (yb:Nat)(c:Cfg)(fv lv:Value)(lr:List Lr)(torn:ByteArray)(broken:Bool)(keep:Int)(w:World)(hR:bJ w yb c fv lr torn false broken keep lv)(g0:ByteArray->ByteArray)(n0:Nat)(hF:dw w c g0 n0 fv lr)(hc:c.Ok):
 c_ 136 #[Px yb] w λe w'=>(∃v tl,e=.returned (.tuple #[v,I 0])/\nK w' v (Ts.all c g0 (lr.map Prod.fst)).main tl)/\Bl w w':=by
 have o:=hR.box.c 10 (.bool false);have g:=ji hR hF hc;generalize Ts.all c g0 (lr.map Prod.fst)=s at g ⊢;clear hR hF;go_enter func136,ntmps136;go_wp2_with fail;go_fit g;rintro e l ⟨⟨p,rfl,z,h⟩,b⟩;obtain⟨j,k,a⟩:=ag h.mrow;obtain⟨f,d⟩:∃f,f=z.tl.length:=⟨_,rfl⟩;rw[<-d] at a;have q:l.cell? ⟨p,8,none⟩=some (.slice j f k):=by rw[<-a];exact h.box.cell (i:=8) rfl
 have n:Hid (nK l (.slice j f k) s.main z.tl):=⟨h.mfst,by rw[<-a];exact Sl.of_row h.mrow,λy hy=>(h.mids y hy).1⟩;have m:=hd b;clear h b g a d;go_wp2_with fail;exact bodyPost_ret (v:=.tuple #[.slice j f k,I 0]) (by simp[results,results136,go_sem]) rfl ⟨⟨_,_,rfl,n.out⟩,m.out⟩
theorem Ec (q:List Wt)(lv:Value)(w:World)(hS:Sl w 165 4 lv q.length (q.flatMap cW))(hn:q.length<=64):
 c_ 133 #[lv] w λe w'=>(∃v',e=.returned v'/\w'.ownsRow w.heap.size 3 1 v' q.length (q.map λx=>cI x.1))/\Bl w w':=by
 obtain⟨v,t,d,f,h⟩:=info_parts jh;obtain⟨E,n,rfl⟩:=hS.form;have m:=hd hS;clear hS;go_enter func133,ntmps133;go_wp2_with fail;go_loopw [3,4] (λlv iv wr=>∃k:Nat,k<=q.length/\iv=I k/\Hid (wr.ownsRow w.heap.size 3 1 lv k ((q.take k).map λx=>cI x.1))/\Hid (Bl w wr)) (λ_ i _=>q.length-(intOf i).toNat)
 case atStart=>exact⟨0,k_ _,rfl,B_ _ _ _ _,n_ _ _⟩
 obtain⟨k,D,rfl,b,a⟩:=hrel;by_cases hlk:k<q.length
 ·obtain⟨g,l,s,u,_⟩:=m.out.addr (by omega);cases u
  obtain⟨x,c⟩:∃x,x=q[k].1:=⟨_,rfl⟩
  have C:wr.cell? ⟨g,l+k*4,none⟩=some (I x):=ae a.out (m.out.cell (j:=k*4) (by
   have:=aq cW 4 (λ_=>rfl) q k 0 hlk (by decide);rw[Nat.add_zero] at this
   rw[this,c];rfl))
  have r:Hid (((q.take (k+1)).map λx=>cI x.1)=((q.take k).map λx=>cI x.1)++[I x]):=by
   show _=_;rw[g_ hlk,w_,c];rfl
  clear c;have y:Hid (k+1<=maxLen):=by show _<=_;unfold maxLen;omega
  have z:Hid ((k+1)*8<=140737488355328):=by show _<=_;omega
  have p:Hid (∀o,w.heap.size<=(wr.alloc o).heap.size):=λo=>by
   have:=a.out.size;show w.heap.size<=_;simp;omega
  go_wp2_with (at_builtin;refine wpList_append_own_at _ rfl (.tmp 11) (.tmp 17) _ rfl w.heap.size _ v _ 1 8 underlying56 t d f h rfl (by decide) u3 _ _ rfl (p_ b.out _) ⟨wr.heap.size,0,none⟩ 1 1 [I x] rfl rfl (au wr _ _) (by simp[Value.oneCell']) y.out z.out (p.out _) ?_;intro v3 w3 hown3 hg3 hnil3 hloc3);refine⟨⟨k+1,hlk,by go_num,?_,?_⟩,by simp[intOf];omega⟩
  ·show w3.ownsRow _ _ _ _ _ _;rw[r.out];exact hown3
  exact(a.out.alloc a.out.size _).grown hg3 (p.out _) (λj hj=>(f_ b.out j hj).1)
 obtain rfl:k=q.length:=by omega
 rw[W_] at b;obtain⟨A,B,rfl⟩:=ag b.out;go_wp2_with fail;go_ret;exact⟨⟨_,rfl,b.out⟩,a.out⟩
theorem sq:(prog.info? 119).map (λi=>(i.zero,i.size,i.bytes))=some (some (.agg #[Zn,I 0,.bool false,I 0]),4,48):=by kernel_rfl
theorem xc (yb:Nat)(c:Cfg)(fv lv:Value)(lr:List Lr)(torn:ByteArray)(broken:Bool)(keep:Int)(w:World)(hR:bJ w yb c fv lr torn false broken keep lv)(g0:ByteArray->ByteArray)(n0:Nat)(hF:dw w c g0 n0 fv lr)(hc:c.Ok):
 c_ 140 #[Px yb] w λe w'=>(∃v gs,e=.returned (.tuple #[v,I 0])/\pr w' v ((Ts.all c g0 (lr.map Prod.fst)).segs.map dj) gs)/\Bl w w':=by
 obtain⟨i0,hi,aA,aB,aC⟩:=info_parts sq;have aF:=hR.box.c 10 (.bool false);have hN:=ji hR hF hc;have hI:=(hF.fits.inv hc).1;generalize Ts.all c g0 (lr.map Prod.fst)=s at hN hI ⊢;have aD:=cY hI;have HI:=hd hI;obtain⟨S,hS⟩:∃S,S=s.segs.map dj:=⟨_,rfl⟩;rw[<-hS];have ap:=hd hS;clear hR hF hI hS;go_enter func140,ntmps140;go_wp2_with fail;go_fit hN;rintro e L ⟨⟨nb,rfl,z,h⟩,ad⟩;obtain⟨d,B⟩:∃d,d=z.zs:=⟨_,rfl⟩
 have aI:d.length<=8:=by
  have O:z.zs.length=s.segs.length:=by rw[<-h.ss,d_]
  rw[B];omega
 have F:=h.srow;obtain⟨sa,sc,V⟩:=ag F;rw[V,<-B] at F;have aE:L.cell? ⟨nb,11,none⟩=some (.slice sa d.length sc):=by rw[B,<-V];exact h.box.cell (i:=11) rfl
 have M:=hd (Sl.of_row F);have aa:=hd ad;have ar:Hid (∀y∈d,∃N,dC w L N y):=λy G=>⟨_,(h.segs y (by rw[<-B];exact G)).1⟩;have HX:Hid (d.map Sv.x=s.segs):=by rw[B];exact h.ss
 have ah:Hid (∀y∈d,y.x.l.length<=8):=λy G=>by
  have O:=HI.out.tr;rw[<-HX.out] at O;obtain⟨a,b,e⟩:=List.append_of_mem G;rw[e,w_,C_,cV,aO] at O;show y.x.l.length<=8;omega
 clear h hN ad F V B aD;go_wp2_with fail;go_loopw [4,6,7,8] (λlv iv _ _ wr=>∃k:Nat,k<=d.length/\iv=I k/\bD lv/\Hid (∃gs:List Gv,gs.map Prod.fst=(d.take k).map (λy=>dj y.x)/\wr.ownsRow L.heap.size 119 4 lv k (gs.flatMap cGv)/\∀y∈gs,Sl wr 3 1 y.2 y.1.1.length (y.1.1.map cI))/\Hid (Bl L wr)) (λ_ i _ _ _=>d.length-(intOf i).toNat)
 case atStart=>exact⟨0,k_ _,rfl,⟨_,_,_,rfl⟩,⟨[],rfl,B_ _ _ _ _,by simp⟩,n_ _ _⟩
 obtain⟨k,hk,rfl,⟨oa,on,q,rfl⟩,hG,Q⟩:=hrel;have ax:=ae Q.out aE;by_cases hlk:k<d.length
 ·obtain⟨g,am,aG,hv,_⟩:=M.out.addr (by omega);cases hv
  obtain⟨N,p⟩:=ar.out _ (i_ hlk);obtain⟨la,lc,E⟩:=p.l.row.form;obtain⟨ta,tn,tc,ak⟩:=p.sl
  have P:∀j (u:Value),j<7->(cSg d[k])[j]? =some u->wr.cell? ⟨g,am+k*7+j,none⟩=some u:=λj u hj hu=>by
   have:=M.out.cell (j:=k*7+j) (u:=u) (by rw[aq cSg 7 (λ_=>rfl) d k j hlk hj];exact hu);rw[J_];exact ae Q.out this
  obtain⟨f,A⟩:∃f,f=d[k].cl.length:=⟨_,rfl⟩;rw[<-A] at E;have d0:wr.cell? ⟨g,am+k*7,none⟩=some (.slice la f lc):=P 0 _ (by decide) (by rw[<-E];rfl);have d1:=P 1 (I d[k].x.fails) (by decide) rfl;have d2:=P 2 (I d[k].x.by_) (by decide) rfl;have d3:=P 3 (.bool (d[k].x.by_ !=0)) (by decide) rfl;have d4:=P 4 (I (cr d[k].x.job)) (by decide) rfl;have d5:=P 5 (I d[k].til) (by decide) rfl;have d6:=P 6 (.slice ta tn tc) (by decide) (by rw[<-ak];rfl);have ai:=aP d0
  have aH:f<=8:=by
   rw[A,p.l.len];exact ah.out _ (i_ hlk)
  have ab:Hid (∀W,Bl L W->c_ 133 #[.slice la f lc] W λe w'=>(∃v',e=.returned v'/\w'.ownsRow W.heap.size 3 1 v' f (d[k].x.l.map λx=>cI x.1))/\Bl W w'):=λW hW=>by
   have O:=Ec (d[k].cl.map wOf) (.slice la f lc) W (by
    have:=p.l.row.later hW;rw[E] at this;rw[d_]
    exact this) (by rw[d_,<-A];omega)
   have e1:((d[k].cl.map wOf).map λx=>cI x.1)=d[k].x.l.map λx=>cI x.1:=by
    rw[<-p.l.fst,y_,y_];rfl
   rw[e1,d_,<-A] at O;exact O
  have HL:=hd (A.trans p.l.len);obtain⟨H,X⟩:∃H,H=d[k].x.fails:=⟨_,rfl⟩;obtain⟨J,Y⟩:∃J,J=(d[k].x.by_ !=0):=⟨_,rfl⟩;obtain⟨K,Z⟩:∃K,K=cr d[k].x.job:=⟨_,rfl⟩;rw[<-X] at d1;rw[<-Y] at d3;rw[<-Z] at d4;have HV:Hid (dj d[k].x=(d[k].x.l.map Prod.fst,H,J,K)):=by rw[X,Y,Z];rfl
  clear p E ak P A X Y Z;obtain⟨gs,t,r,C⟩:=hG.out;obtain⟨aJ,aK,az⟩:=ag r;injection az with ho1 ho2 ho3;subst ho1 ho2 ho3;have HG:Hid (gs.map Prod.fst=(d.take on).map (λy=>dj y.x)/\wr.ownsRow L.heap.size 119 4 (.slice oa on q) on (gs.flatMap cGv)/\∀y∈gs,Sl wr 3 1 y.2 y.1.1.length (y.1.1.map cI)):=⟨t,r,C⟩
  have av:Hid ((d.take (on+1)).map (λy=>dj y.x)=(d.take on).map (λy=>dj y.x)++[dj d[on].x]):=by
   show _=_;rw[g_ hlk,w_];rfl
  clear t r C hG;go_upto_region 9 with fail;have X8:=Bx.new wr #[.slice la f lc,I H,I d[on].x.by_,.bool J,I K,I d[on].til,.slice ta tn tc] 170;have R:=af wr (.cells #[.slice la f lc,I H,I d[on].x.by_,.bool J,I K,I d[on].til,.slice ta tn tc] 170);have ac:=ab.out _ (bj Q.out R);generalize wr.alloc (.cells #[.slice la f lc,I H,I d[on].x.by_,.bool J,I K,I d[on].til,.slice ta tn tc] 170)=w8 at *;have x0:=X8.c 0 (.slice la f lc);have aw:=hd X8;have an:=hd R;clear X8 R d0 d1 d2 d3 d4 d5 d6 ax;go_wp2_with fail;go_fit ac;rintro e w9 ⟨⟨v9,rfl,U⟩,T⟩;obtain⟨a9,c9,rfl⟩:=ag U;have X9:=aw.out.later T;have x1:=X9.c 1 (I H);have x3:=X9.c 3 (.bool J);have x4:=X9.c 4 (I K);have D:=hd (bj an.out T);have ao:=hd U;have al:=e_ Q.out.size D.out.size;have m:=hd (aN HG.out.2.1 λb hb'=>D.out.block b (f_ HG.out.2.1 b hb').2);have q1:Hid (on+1<=maxLen):=by show _<=_;unfold maxLen;omega
  have q2:Hid ((on+1)*48<=140737488355328):=by show _<=_;omega
  have q3:Hid (∀o,L.heap.size<=(w9.alloc o).heap.size):=λo=>by
   show L.heap.size<=_;simp;omega
  clear U T ac X9 x0;go_wp2_with (at_builtin;refine wpList_append_own_at _ rfl (.tmp 34) (.tmp 43) _ rfl L.heap.size _ i0 _ 4 48 underlying115 hi aA aB aC rfl (by decide) (.slice oa on q) _ _ rfl (p_ m.out _) ⟨w9.heap.size,0,none⟩ 1 1 [.slice a9 f c9,I H,.bool J,I K] rfl rfl (au w9 _ _) (by simp[Value.oneCell']) q1.out q2.out (q3.out _) ?_;intro v3' w3 hown3 hg3 hnil3 hloc3);obtain⟨a3,c3,rfl⟩:=ag hown3;have ay:=((Q.out.trans (D.out.mono Q.out.size)).alloc al _).grown hg3 (q3.out _) (λj hj=>(f_ m.out j hj).1)
  have aj:∀{n:Nat} {v:Value} {xs:List Value},Sl w9 3 1 v n xs->Sl w3 3 1 v n xs:=λhs=>hs.kept λb hb'=>(hg3.block b (by simp;have:=hs.lt hb';omega) λe=>by
   have O:=(Sl.of_row m.out).ty (g:=b) e.symm
   exact absurd ((hs.ty hb').one O) (by decide)).trans (Below.heap_alloc _ _ _ (hs.lt hb'))
  refine⟨⟨on+1,hlk,by go_num,⟨_,_,_,rfl⟩,⟨gs++[(dj d[on].x,.slice a9 f c9)],?_,?_,λy G=>?_⟩,ay⟩,by simp[intOf];omega⟩
  ·rw[w_,HG.out.1,av.out];rfl
  ·rw[r_]
   have e1:[((dj d[on].x,(.slice a9 f c9:Value)):Gv)].flatMap cGv=[.slice a9 f c9,I H,.bool J,I K]:=by
    rw[HV.out];rfl
   rw[e1];exact hown3
  rcases E_.1 G with G|G
  ·exact aj ((HG.out.2.2 y G).later D.out)
  obtain rfl:=o_.1 G;refine aj ?_;show Sl w9 3 1 (.slice a9 f c9) (d[on].x.l.map Prod.fst).length ((d[on].x.l.map Prod.fst).map cI);rw[d_,<-HL.out,y_];exact Sl.of_row ao.out
 obtain rfl:k=d.length:=by omega
 obtain⟨gs,t,r,C⟩:=hG.out
 have HF:Hid (pr wr (.slice oa on q) S gs/\Bl w wr):=by
  have ai:gs.length=d.length:=by
   have:=congrArg List.length t;rw[d_,d_,W_] at this;exact this
  refine⟨⟨?_,?_,C⟩,aa.out.trans (Q.out.mono aa.out.size)⟩
  ·rw[t,W_,ap.out,<-HX.out,y_];rfl
  rw[ai];exact Sl.of_row r
 clear hG t r C;go_wp2_with fail;exact bodyPost_ret (v:=.tuple #[.slice oa on q,I 0]) (by simp[results,results140,go_sem]) rfl ⟨⟨_,_,rfl,HF.out.1⟩,HF.out.2⟩
variable{js:List Jv}{N base:Nat}{α:Type}{wr:World}
theorem pt:(prog.info? 124).map (λi=>(i.zero,i.size,i.bytes))=some (some (.agg #[I 0,I 0,Zn,Zn]),4,64):=by kernel_rfl
def gQ (l:List Sm):List Nat:=l.flatMap λx=>x.l.map Prod.fst
def jb (x:Sm)(acc:List Nat):List Jbt:=match x.job with
 |some j=>[(j.num,j.til,acc++x.l.map Prod.fst,j.files)]
 |none=>[]
theorem dm (x:Sm)(l:List Sm)(acc:List Nat):bR (x::l) acc=jb x acc++bR l (acc++x.l.map Prod.fst):=rfl
theorem iV:∀(a:List Sm) (x:Sm) (acc:List Nat),bR (a++[x]) acc=bR a acc++jb x (acc++gQ a)
 |[],x,acc=>by simp[dm,bR,gQ]
 |y::a,x,acc=>by
  rw[List.cons_append,dm,dm,iV a x,A_]
  simp[gQ]
theorem dK:∀(l:List Sm) (acc:List Nat),(bR l acc).length<=l.length
 |[],_=>b_ _
 |x::l,acc=>by
  rw[dm,a_,List.length_cons]
  have:=dK l (acc++x.l.map Prod.fst)
  have a:(jb x acc).length<=1:=by unfold jb;split<;>simp
  omega
theorem zD (l:List Sm):(gQ l).length=az l:=by
 induction l with
 |nil=>rfl
 |cons x l ih=>rw[aO,<-ih];simp[gQ]
theorem jO (lane:α->Nat)(q:List α)(L:Nat):(rkG lane q L).length<=q.length:=by
 rw[(fJ lane q L).length_eq];exact List.length_filter_le _ _
theorem iw {P:Jbt->Prop}:∀(l:List Sm) (acc:List Nat),(∀x∈l,∀a,∀y∈jb x a,P y)->∀y∈bR l acc,P y
 |[],_,_,y,hy=>by cases hy
 |x::l,acc,h,y,hy=>by
  rw[dm] at hy
  rcases E_.1 hy with hy|hy
  ·exact h x D_ acc y hy
  exact iw l _ (λz hz=>h z (List.mem_cons_of_mem _ hz)) y hy
theorem Bk {q:List Jbt}(h:∀y∈q,1<=y.1):rkG (λy=>y.1) q 1=[]:=by
 rw[gF];have:(q.filter λx=>x.1==0)=[]:=List.filter_eq_nil_iff.2 λy hy=>by have:=h y hy;simp;omega
 rw[this];rfl
theorem xd {x:Sm}{acc:List Nat}:(jb x acc).filter (λy=>y.1==n)=if x.runs n then jb x acc else []:=by
 unfold jb Sm.runs;cases x.job with
 |none=>simp
 |some j=>
  by_cases h:j.num=n
  ·simp[h]
  simp[h]
structure qF (base N:Nat)(wr:World)(lv av:Value)(l:List Jbt)(js:List Jv):Prop where
 fst:js.map Prod.fst=l
 row:wr.ownsRow base 124 4 lv l.length (js.flatMap cJv)
 ids:∀y∈js,Sl wr 3 1 y.2.1 y.1.2.2.1.length (y.1.2.2.1.map cI)/\∀b,y.2.1.ownBlock=some b->av.ownBlock≠some b
 tree:∀y∈js,cu wr N y.2.2 y.1.2.2.2
theorem qF.kept {av av':Value}{l:List Jbt}(h:qF base N wr lv av l js)(hG:∀k,k<wr.heap.size->av.ownBlock≠some k->w'.heap[k]? =wr.heap[k]?)(ht:∀b,av.ownBlock=some b->cy wr b 3)(hl:dd wr av av'):qF base N w' lv av' l js:=by
 have a:∀{k:Nat} {t:TypeId},cy wr k t->t≠3->w'.heap[k]? =wr.heap[k]? :=λa hne=>hG _ a.lt λe=>hne (a.one (ht _ e));exact⟨h.fst,aN h.row λb hb=>a (aV h.row hb) (by decide),λy hy=>⟨(h.ids y hy).1.kept λb hb=>hG b ((h.ids y hy).1.lt hb) ((h.ids y hy).2 b hb),λb hb=>hl.ne ((h.ids y hy).1.lt hb) ((h.ids y hy).2 b hb)⟩,λy hy=>(h.tree y hy).kept (λb hb=>a ((h.tree y hy).ty hb) (by decide)) (b_ _)⟩
theorem zC (yb:Nat)(c:Cfg)(fv lv:Value)(lr:List Lr)(torn:ByteArray)(broken:Bool)(keep:Int)(w:World)(hR:bJ w yb c fv lr torn false broken keep lv)(g0:ByteArray->ByteArray)(n0:Nat)(hF:dw w c g0 n0 fv lr)(hc:c.Ok):
 Calls prog 92 #[Px yb] w λe w'=>(∃v js,e=.returned (.tuple #[v,I 0])/\sk w' ((Ts.all c g0 (lr.map Prod.fst)).top n0) v (Ts.all c g0 (lr.map Prod.fst)).jobs js)/\Bl w w':=by
 obtain⟨i0,hi,br,bd,bs⟩:=info_parts jh;obtain⟨j0,bG,bM,bN,bO⟩:=info_parts pt;have bZ:=hR.box.c 10 (.bool false);have hN:=ji hR hF hc;have hI:=(hF.fits.inv hc).1;have aZ:=(hF.fits.inv hc).2.begun;have b7:=hF.len;rw[d_] at aZ;generalize Ts.all c g0 (lr.map Prod.fst)=s at hN hI aZ ⊢;have bP:=cY hI;have HI:=hd hI;obtain⟨J,hJ⟩:∃J,J=s.jobs:=⟨_,rfl⟩;obtain⟨N,a0⟩:∃N,N=s.top n0:=⟨_,rfl⟩;obtain⟨B,ak⟩:∃B,B=s.begun:=⟨_,rfl⟩;rw[<-hJ,<-a0];rw[<-ak] at aZ;have HJ:=hd hJ;have HN:=hd a0;have bu:=hd ak;clear hR hF hI hJ a0;go_enter func92,ntmps92;go_wp2_with fail;go_fit hN;rintro e t ⟨⟨nb,rfl,z,h⟩,bk⟩;obtain⟨L,X⟩:∃L,L=z.zs:=⟨_,rfl⟩
 have bQ:L.length<=8:=by
  have G:z.zs.length=s.segs.length:=by rw[<-h.ss,d_]
  rw[X];omega
 have aB:=h.srow;obtain⟨sa,sc,a6⟩:=ag aB;rw[a6,<-X] at aB;have aD:t.cell? ⟨nb,11,none⟩=some (.slice sa L.length sc):=by rw[X,<-a6];exact h.box.cell (i:=11) rfl
 have bT:t.cell? ⟨nb,14,none⟩=some (I B):=by rw[ak];exact h.box.cell (i:=14) rfl
 have aF:=hd (Sl.of_row aB);have bf:=hd bk;have bw:Hid (∀y∈L,dC w t N y):=λy E=>by rw[HN.out];exact(h.segs y (by rw[<-X];exact E)).1
 have HX:Hid (L.map Sv.x=s.segs):=by rw[X];exact h.ss
 have b9:=aP aD;have bx:=hd (HI.out.tr);clear h hN bk aB a6 X bP ak;obtain⟨q,hq⟩:∃q,q=bR s.segs []:=⟨_,rfl⟩
 have HQ:Hid (q=bR s.segs []/\q.length<=8/\∀y∈q,1<=y.1):=⟨hq,by rw[hq];refine e_ (dK _ _) ?_;rw[<-HX.out,d_];exact bQ,by
  rw[hq];refine iw _ _ λx hx a y E=>?_;unfold jb at E;cases f:x.job with
  |none=>rw[f] at E;cases E
  |some j=>
   rw[f] at E;obtain rfl:=o_.1 E
   exact((HI.out.sm x hx).job j f).2.2.1⟩
 clear hq;go_wp2_with fail;go_loopw [4,6,7,8,9,10,11] (λlv nv _ _ _ _ _ wr=>∃n:Nat,1<=n/\n<=B+1/\nv=I n/\bD lv/\Hid (∃js,qF t.heap.size N wr lv (Zn) (rkG (λy=>y.1) q n) js)/\Hid (Bl t wr)) (λ_ n _ _ _ _ _ _=>B+1-(intOf n).toNat)
 case atStart=>exact⟨1,b_ _,by omega,rfl,⟨_,_,_,rfl⟩,⟨[],by rw[Bk HQ.out.2.2];exact⟨rfl,B_ _ _ _ _,by simp,by simp⟩⟩,n_ _ _⟩
 obtain⟨n,bI,b8,rfl,⟨U,on,d,rfl⟩,Q,D⟩:=hrel;have bA:=ae D.out bT;by_cases hlt:n<=B
 ·have bo:(n:Int)<=(B:Int):=by omega
  go_wp2_with fail;go_loopw [4,7,8,9,10,11] (λlv av iv _ _ _ wr=>∃i:Nat,i<=L.length/\iv=I i/\bD lv/\bD av/\Hid (∃js,qF t.heap.size N wr lv av (rkG (λy=>y.1) q n++(bR (s.segs.take i) []).filter λy=>y.1==n) js/\wr.ownsRow t.heap.size 3 1 av (gQ (s.segs.take i)).length ((gQ (s.segs.take i)).map cI))/\Hid (Bl t wr)) (λ_ _ i _ _ _ _=>L.length-(intOf i).toNat)
  case atStart=>
   obtain⟨js,f⟩:=Q.out;exact⟨0,k_ _,rfl,⟨_,_,_,rfl⟩,⟨_,_,_,rfl⟩,⟨js,by simpa[bR] using f,B_ _ _ _ _⟩,D⟩
  clear Q D bA;obtain⟨i,b5,rfl,⟨U,on,d,rfl⟩,⟨aa,an,P,rfl⟩,Q,D⟩:=hrel;have aX:=ae D.out aD;by_cases hli:i<L.length
  ·obtain⟨x,hx⟩:∃x,x=L[i].x:=⟨_,rfl⟩;have ar:i<s.segs.length:=by rw[<-HX.out,d_];exact hli
   have aC:s.segs[i]=x:=by rw[hx];simp only[<-HX.out];simp
   obtain⟨g,R,b1,hv,_⟩:=aF.out.addr (by omega);cases hv
   have T:=bw.out _ (i_ hli);obtain⟨la,lc,ax⟩:=T.l.row.form;obtain⟨ta,tn,tc,a8⟩:=T.sl
   have KK:Hid (∀j (u:Value),j<7->(cSg L[i])[j]? =some u->t.cell? ⟨g,R+i*7+j,none⟩=some u):=λj u f hu=>by
    have:=aF.out.cell (j:=i*7+j) (u:=u) (by rw[aq cSg 7 (λ_=>rfl) L i j hli f];exact hu);rw[J_];exact this
   obtain⟨F,af⟩:∃F,F=L[i].cl.length:=⟨_,rfl⟩;rw[<-af] at ax;have t0:t.cell? ⟨g,R+i*7,none⟩=some (.slice la F lc):=KK.out 0 _ (by decide) (by rw[<-ax];rfl);obtain⟨v4,bb⟩:∃v4,v4=cr x.job:=⟨_,rfl⟩;obtain⟨v5,bc⟩:∃v5,v5=L[i].til:=⟨_,rfl⟩;have t4:t.cell? ⟨g,R+i*7+4,none⟩=some (I v4):=KK.out 4 _ (by decide) (by rw[bb,hx];rfl);have t5:t.cell? ⟨g,R+i*7+5,none⟩=some (I v5):=KK.out 5 _ (by decide) (by rw[bc];rfl);have t6:t.cell? ⟨g,R+i*7+6,none⟩=some (.slice ta tn tc):=KK.out 6 _ (by decide) (by rw[<-a8];rfl)
   have a7:az (s.segs.take i)+x.l.length<=8:=by
    have G:=gP s.segs (i+1);rw[cU ar,aC] at G;exact e_ G bx.out
   have ah:F=x.l.length:=by rw[af,T.l.len,hx]
   have aI:Calls prog 133 #[.slice la F lc] wr λe w'=>(∃v',e=.returned v'/\w'.ownsRow wr.heap.size 3 1 v' F (x.l.map λx=>cI x.1))/\Bl wr w':=by
    have G:=Ec (L[i].cl.map wOf) (.slice la F lc) wr (by
     have:=T.l.row.later D.out;rw[ax] at this;rw[d_]
     exact this) (by rw[d_,<-af];omega)
    have e1:((L[i].cl.map wOf).map λx=>cI x.1)=x.l.map λx=>cI x.1:=by
     rw[hx,<-T.l.fst,y_,y_];rfl
    rw[e1,d_,<-af] at G;exact G
   have aW:Hid (∀j,x.job=some j->v5=j.til/\cu t N (.slice ta tn tc) j.files):=λj f=>by
    have h2:=T.job j (by rw[<-hx];exact f);rw[bc,<-a8];exact h2
   have HV:Hid (v4=cr x.job/\s.segs[i]=x/\F=x.l.length/\az (s.segs.take i)+x.l.length<=8):=⟨bb,aC,ah,a7⟩;have bX:Hid (dv c s.begun s.now x):=HI.out.sm x (by rw[<-aC];exact i_ ar);obtain⟨js,f,r⟩:=Q.out;obtain⟨bY,bz,bE⟩:=ag r;injection bE with ha1 ha2 ha3;subst ha1 ha3;obtain⟨m,aj⟩:∃m,m=gQ (s.segs.take i):=⟨_,rfl⟩;obtain⟨O,am⟩:∃O,O=rkG (λy=>y.1) q n++(bR (s.segs.take i) []).filter λy=>y.1==n:=⟨_,rfl⟩;rw[<-aj] at r ha2;rw[<-am] at f;subst ha2;have b2:m.length+F<=8:=by rw[aj,zD,ah];exact a7
   have aQ:Hid (m=gQ (s.segs.take i)/\O=rkG (λy=>y.1) q n++(bR (s.segs.take i) []).filter λy=>y.1==n):=⟨aj,am⟩
   have bV:O.length<=16:=by
    rw[am,a_];have G:=jO (λy:Jbt=>y.1) q n;have h2:((bR (s.segs.take i) []).filter λy=>y.1==n).length<=8:=e_ (List.length_filter_le _ _) (e_ (dK _ _) (by rw[l_];omega));have h3:=HQ.out.2.1;omega
   have W:Hid (qF t.heap.size N wr (.slice U on d) (.slice aa m.length P) O js/\wr.ownsRow t.heap.size 3 1 (.slice aa m.length P) m.length (m.map cI)):=⟨f,r⟩;have d0:=ae D.out t0;clear T ax a8 af bb bc aC ah a7 f r Q aj am hx;go_wp2_with fail;go_fit aI;rintro e w2 ⟨⟨v9,rfl,aA⟩,ao⟩;obtain⟨a9,c9,rfl⟩:=ag aA;have bg:=hd (D.out.trans (ao.mono D.out.size))
   have bh:Hid (qF t.heap.size N w2 (.slice U on d) (.slice aa m.length P) O js/\w2.ownsRow t.heap.size 3 1 (.slice aa m.length P) m.length (m.map cI)/\Sl w2 3 1 (.slice a9 F c9) F (x.l.map λx=>cI x.1)/\∀b,(Value.slice a9 F c9).ownBlock=some b->(Value.slice aa m.length P).ownBlock≠some b):=
    ⟨W.out.1.kept (λk hk _=>ao.block k hk) (λb hb'=>aV W.out.2 hb') (dd.refl _ _),aN W.out.2 λb hb'=>ao.block b (f_ W.out.2 b hb').2,Sl.of_row aA,gz aA W.out.2 (b_ _)⟩
   clear aA ao aI W d0 aX D;go_wp2_with fail;go_loopw [7,10] (λav kv wx=>∃k:Nat,k<=F/\kv=I k/\bD av/\Hid (qF t.heap.size N wx (.slice U on d) av O js/\wx.ownsRow t.heap.size 3 1 av (m.length+k) (m.map cI++(x.l.take k).map λx=>cI x.1)/\Sl wx 3 1 (.slice a9 F c9) F (x.l.map λx=>cI x.1)/\∀b,(Value.slice a9 F c9).ownBlock=some b->av.ownBlock≠some b)/\Hid (Bl t wx)) (λ_ k _=>F-(intOf k).toNat)
   case atStart=>exact⟨0,k_ _,rfl,⟨_,_,_,rfl⟩,by simpa using bh,bg⟩
   clear bh bg;obtain⟨k,b6,rfl,⟨Y,bn,p,rfl⟩,al,D⟩:=hrel;by_cases hlk:k<F
   ·obtain⟨f,r,hl,ay⟩:=al.out;obtain⟨bB,aY,a1⟩:=ag r;injection a1 with G h2 h3;subst G h3;subst h2;obtain⟨g9,o9,b0,bL,_⟩:=hl.addr (by omega);cases bL
    have bp:k<x.l.length:=by rw[<-HV.out.2.2.1];exact hlk
    obtain⟨id,a2⟩:∃id,id=x.l[k].1:=⟨_,rfl⟩;have d0:wr.cell? ⟨g9,o9+k,none⟩=some (I id):=hl.cell (j:=k) (by rw[List.getElem?_map,List.getElem?_eq_getElem bp,a2];rfl)
    have HW:Hid (((x.l.take (k+1)).map λx=>cI x.1)=((x.l.take k).map λx=>cI x.1)++[I id]):=by
     show _=_;rw[g_ bp,w_,a2];rfl
    have HS:Hid (qF t.heap.size N wr (.slice U on d) (.slice Y (m.length+k) p) O js/\wr.ownsRow t.heap.size 3 1 (.slice Y (m.length+k) p) (m.length+k) (m.map cI++(x.l.take k).map λx=>cI x.1)/\Sl wr 3 1 (.slice (some ⟨g9,o9,none⟩) F c9) F (x.l.map λx=>cI x.1)/\∀b,(Value.slice (some ⟨g9,o9,none⟩) F c9).ownBlock=some b->(Value.slice Y (m.length+k) p).ownBlock≠some b):=⟨f,r,hl,ay⟩;have q1:Hid (m.length+k+1<=maxLen):=by show _<=_;unfold maxLen;omega
    have q2:Hid ((m.length+k+1)*8<=140737488355328):=by show _<=_;omega
    have q3:Hid (∀o,t.heap.size<=(wr.alloc o).heap.size):=λo=>by
     have:=D.out.size;show t.heap.size<=_;simp;omega
    clear f r hl ay a2 al;go_wp2_with (at_builtin;refine wpList_append_own_at _ rfl (.tmp 50) (.tmp 55) _ rfl t.heap.size _ i0 _ 1 8 underlying56 hi br bd bs rfl (by decide) (.slice Y (m.length+k) p) _ _ rfl (p_ HS.out.2.1 _) ⟨wr.heap.size,0,none⟩ 1 1 [I id] rfl rfl (au wr _ _) (by simp[Value.oneCell']) q1.out q2.out (q3.out _) ?_;intro v3 w3 hown3 hg3 hnil3 hloc3);obtain⟨a3,c3,rfl⟩:=ag hown3;have ac:dd wr (.slice Y (m.length+k) p) (.slice a3 (m.length+k+1) c3):=dd.mk (hloc3.imp (λh=>h) λh=>⟨_,h,by simp⟩) (b_ _);have bm:∀k',k'<wr.heap.size->(Value.slice Y (m.length+k) p).ownBlock≠some k'->w3.heap[k']? =wr.heap[k']? :=λk' hk' hne'=>(hg3.block k' (by simp;omega) λe=>hne' e.symm).trans (Below.heap_alloc _ _ _ hk');have bF:=(D.out.alloc D.out.size _).grown hg3 (q3.out _) (λj f=>(f_ HS.out.2.1 j f).1);refine⟨⟨k+1,hlk,by go_num,⟨_,_,_,rfl⟩,⟨HS.out.1.kept bm (λb hb'=>aV HS.out.2.1 hb') ac,?_,HS.out.2.2.1.kept λb hb'=>bm b (HS.out.2.2.1.lt hb') (HS.out.2.2.2 b hb'),λb hb'=>ac.ne (HS.out.2.2.1.lt hb') (HS.out.2.2.2 b hb')⟩,bF⟩,by simp[intOf];omega⟩;rw[HW.out,<-A_,<-J_];exact hown3
   obtain rfl:k=F:=by omega
   obtain⟨f,r,hl,ay⟩:=al.out;obtain⟨bB,aY,a1⟩:=ag r;injection a1 with G h2 h3;subst G h3;subst h2;obtain⟨C,ab⟩:∃C,C=m++x.l.map Prod.fst:=⟨_,rfl⟩;have A:C.length=m.length+k:=by rw[ab,a_,d_,<-HV.out.2.2.1]
   have aH:C=gQ (s.segs.take (i+1)):=by
    rw[ab,aQ.out.1,g_ ar,HV.out.2.1];simp[gQ]
   have aK:wr.ownsRow t.heap.size 3 1 (.slice Y (m.length+k) p) C.length (C.map cI):=by
    have h4:m.map cI++(x.l.take k).map (λx=>cI x.1)=C.map cI:=by
     rw[m_ (by rw[HV.out.2.2.1];exact b_ _),ab,w_,y_];rfl
    rw[h4] at r;rw[A];exact r
   have aJ:rkG (λy=>y.1) q n++(bR (s.segs.take (i+1)) []).filter (λy=>y.1==n)=O++if x.runs n then jb x m else []:=by
    rw[g_ ar,HV.out.2.1,iV,List.filter_append,xd,<-A_,<-aQ.out.2,List.nil_append,<-aQ.out.1]
   have aX:=ae D.out aD;have b4:=ae D.out t4;have HE:Hid (C.length=m.length+k/\C=gQ (s.segs.take (i+1))/\rkG (λy=>y.1) q n++(bR (s.segs.take (i+1)) []).filter (λy=>y.1==n)=O++(if x.runs n then jb x m else [])/\C=m++x.l.map Prod.fst):=⟨A,aH,aJ,ab⟩;have M:=hd aK;have Z:=hd f;clear al f r hl ay A aH aJ ab aK;by_cases hvn:v4=n
   ·subst hvn
    obtain⟨jj,ap,a4⟩:∃jj,x.job=some jj/\jj.num=v4:=by
     have G:=HV.out.1;cases f:x.job with
     |none=>rw[f] at G;have h2:v4=0:=G;omega
     |some j=>rw[f] at G;exact⟨j,rfl,G.symm⟩
    have bi:Hid ((if x.runs v4 then jb x m else [])=[(v4,v5,C,jj.files)]/\cu t N (.slice ta tn tc) jj.files):=by
     have G:=aW.out jj ap;refine⟨?_,G.2⟩;rw[if_pos ((Sm.runs_iff _ _).2 ⟨jj,ap,a4⟩),jb,ap,G.1,HE.out.2.2.2,<-a4]
    clear ap a4;obtain⟨H,a5⟩:∃H,H=m.length+k:=⟨_,rfl⟩;rw[<-a5] at M Z ⊢;have bW:H<=8:=by omega
    have aS:Hid (C.length=H):=by rw[a5];exact HE.out.1
    clear a5;obtain⟨cb,bU,bK⟩:=ag Z.out.row;injection bK with G h2 h3;subst G h3;subst h2;have aO:(prog.info? 3).map (·.size)=some 1:=by rw[hi];simp[bd]
    have aE:Hid (∀u∈C.map cI,u.oneCell'=true):=λu hu=>by
     obtain⟨y,_,rfl⟩:=q_.1 hu;rfl
    have A:(C.map cI).length=H*1:=by rw[d_,aS.out,Nat.mul_one]
    have q2:Hid (i0.bytes*H<=281474976710656):=by show i0.bytes*H<=281474976710656;rw[bs];omega
    have aG:Hid (∀w3:World,wr.grownBy w3 none->0<H->∃ad,Y=some ad/\∀j v,(C.map cI)[j]? =some v->w3.cell? (ad.add j)=some v):=λw3 hg hp=>by
     have hs:Sl w3 3 1 (.slice Y H p) H (C.map cI):=by
      have h4:=Sl.of_row M.out;rw[aS.out] at h4;exact h4.grown hg (by simp)
     obtain⟨gg,oo,cc,hv,_⟩:=hs.addr hp;cases hv
     refine⟨_,rfl,λj v f=>?_⟩
     have e:(⟨gg,oo,none⟩:Addr).add j=⟨gg,oo+j,none⟩:=by
      unfold Addr.add;by_cases h:j=0
      ·subst h;simp
      simp[h]
     rw[e];exact hs.cell f
    go_wp2_with (first|(at_make;refine wpList_make_full _ rfl _ _ _ rfl wr.heap.size _ i0 _ 1 underlying56 hi br bd _ _ _ _ H rfl rfl (by omega) (by omega) q2.out (by unfold maxLen;omega) (b_ _) ?_;intro w3 hrow3 hg3)|(refine fF _ rfl _ _ _ _ rfl 3 1 wr.heap.size underlying56 aO _ H Y H p rfl rfl (b_ _) _ hrow3 (C.map cI) A (λh0=>aG.out w3 ⟨hg3.os,hg3.tape,hg3.output,hg3.size,hg3.block⟩ h0) aE.out ?_;intro w4 hrow4 hg4));have e0:∀l:List Value,l.length=H*1->l.drop (C.map cI).length=[]:=λl hl=>List.drop_eq_nil_of_le (by rw[hl,A];exact b_ _);have aR:Hid (Bl wr w4):=((n_ _ _).grown (show wr.grownBy w3 none from ⟨hg3.os,hg3.tape,hg3.output,hg3.size,hg3.block⟩) (b_ _) (by simp)).grown hg4 hg3.size (λk h=>by cases h;exact b_ _)
    have bj:Hid (w4.ownsRow wr.heap.size 3 1 (.slice (some ⟨wr.heap.size,0,none⟩) H H) H (C.map cI)):=by
     have h4:=hrow4;rw[e0 _ hrow3.1,T_] at h4;exact h4
    have K:=hd (Z.out.kept (λk hk _=>aR.out.block k hk) (λb hb'=>aV M.out hb') (dd.refl _ _));have bv:=hd (aN M.out λb hb'=>aR.out.block b (f_ M.out b hb').2);have V:=hd (D.out.trans (aR.out.mono D.out.size));have bt:=hd (gz bj.out M.out (b_ _));have bS:=ae V.out aD;have k5:=ae V.out t5;have k6:=ae V.out t6;have b3:=aP t5;have bl:=V.out.size;have q1:Hid (O.length+1<=maxLen):=by show _<=_;unfold maxLen;omega
    have q3:Hid ((O.length+1)*64<=140737488355328):=by show _<=_;omega
    have bq:some nb≠(Value.slice U O.length d).ownBlock:=λe=>by have:=(f_ K.out.row _ e.symm).1;omega
    have aL:some g≠(Value.slice U O.length d).ownBlock:=λe=>by have:=(f_ K.out.row _ e.symm).1;omega
    clear hrow3 hrow4 hg3 hg4 e0 A q2 aX b4 M Z D aG aE aO;go_region_held_law (λw'=>w'.cell? ⟨nb,11,none⟩=some (.slice (some ⟨g,R,none⟩) L.length sc)/\w'.cell? ⟨g,R+i*7+5,none⟩=some (I v5)/\w'.cell? ⟨g,R+i*7+6,none⟩=some (.slice ta tn tc)) (go_keep) ((refine aT rfl _ _ 120 rfl t.heap.size _ j0 _ 4 64 underlying120 bG bM bN bO rfl (by decide) (.slice U O.length d) _ _ rfl (p_ K.out.row _) ⟨w4.heap.size,0,none⟩ 1 1 [I v4,I v5,.slice (some ⟨wr.heap.size,0,none⟩) H H,.slice ta tn tc] rfl rfl (au w4 _ _) (by simp[Value.oneCell']) q1.out q3.out (e_ bl (by simp)) ?_;intro v3 w5 hown3 hg3 hloc3;obtain⟨a3,c3,rfl⟩:=ag hown3;have cd:=K_ hg3 (ae (aw w4 _) bS) bq;have y5:=K_ hg3 (ae (aw w4 _) k5) aL;have y6:=K_ hg3 (ae (aw w4 _) k6) aL;have O3:=hd hown3;have G3:Hid (w4.grownBy w5 (Value.slice U O.length d).ownBlock):=(v_ w4 _ _).trans ⟨hg3.os,hg3.tape,hg3.output,hg3.size,hg3.block⟩;clear hown3 hg3 hloc3))
    all_goals
     go_wp2_with fail;have K5:aM w4 w5 [124]:=aM.of_only (ai.of_grown (S:=λk=>(Value.slice U O.length d).ownBlock=some k) G3.out λk hk=>hk) λk hk=>⟨124,by simp,aV K.out.row hk⟩;refine⟨⟨i+1,hli,by go_num,⟨_,_,_,rfl⟩,⟨_,_,_,rfl⟩,⟨js++[((v4,v5,C,jj.files),.slice (some ⟨wr.heap.size,0,none⟩) H H,.slice ta tn tc)],?_,by rw[<-HE.out.2.1];exact K5.row bv.out (by decide)⟩,V.out.grown G3.out bl λj f=>(f_ K.out.row j f).1⟩,by simp[intOf];omega⟩;rw[HE.out.2.2.1,bi.out.1];refine⟨by rw[w_,K.out.fst];rfl,?_,λy E=>?_,λy E=>?_⟩
     ·rw[a_,r_];exact O3.out
     ·rcases E_.1 E with E|E
      ·exact⟨K5.sl (K.out.ids y E).1 (by decide),(K.out.ids y E).2⟩
      obtain rfl:=o_.1 E;refine⟨K5.sl ?_ (by decide),bt.out⟩;show Sl w4 3 1 _ C.length (C.map cI);rw[aS.out];exact Sl.of_row bj.out
     rcases E_.1 E with E|E
     ·exact(K.out.tree y E).keptT K5 (by decide) (b_ _)
     obtain rfl:=o_.1 E;exact(bi.out.2.later V.out).keptT K5 (by decide) (b_ _)
   have ca:=beq_false_of_ne (by omega)
   have aU:Hid (∃js,qF t.heap.size N wr (.slice U on d) (.slice Y (m.length+k) p) (rkG (λy=>y.1) q n++(bR (s.segs.take (i+1)) []).filter λy=>y.1==n) js/\wr.ownsRow t.heap.size 3 1 (.slice Y (m.length+k) p) (gQ (s.segs.take (i+1))).length ((gQ (s.segs.take (i+1))).map cI)):=by
    refine⟨js,?_,by rw[<-HE.out.2.1];exact M.out⟩;rw[HE.out.2.2.1,if_neg (λh=>hvn (HV.out.1.trans ((lh bI).2 h))),T_];exact Z.out
   go_wp2_with fail;exact⟨⟨i+1,hli,by go_num,⟨_,_,_,rfl⟩,⟨_,_,_,rfl⟩,aU.out,D.out⟩,by simp[intOf];omega⟩
  obtain rfl:i=L.length:=by omega
  have aU:Hid (∃js,qF t.heap.size N wr (.slice U on d) (Zn) (rkG (λy=>y.1) q (n+1)) js):=by
   obtain⟨js,f,r⟩:=Q.out;rw[m_ (by rw[<-HX.out,d_];exact b_ _)] at f r;rw[<-HQ.out.1,<-gF] at f;exact⟨js,f.kept (λ_ _ _=>rfl) (λb hb'=>aV r hb') (λg hg=>by cases hg)⟩
  go_wp2_with fail;exact⟨⟨n+1,by omega,by omega,by go_num,⟨_,_,_,rfl⟩,aU.out,D.out⟩,by simp[intOf];omega⟩
 obtain rfl:n=B+1:=by omega
 have bo:¬(((B+1:Nat):Int)<=(B:Int)):=by omega
 obtain⟨js,f⟩:=Q.out
 have HF:Hid (sk wr N (.slice U on d) J js/\Bl w wr):=by
  have bC:J=rkG (λy=>y.1) q (B+1):=by rw[HJ.out,HQ.out.1,bu.out];rfl
  have bH:js.length=(rkG (λy=>y.1) q (B+1)).length:=by rw[<-f.fst,d_]
  refine⟨⟨by rw[bC];exact f.fst,?_,λy E=>(f.ids y E).1,f.tree⟩,bf.out.trans (D.out.mono bf.out.size)⟩;rw[bH];exact Sl.of_row f.row
 clear Q f;go_wp2_with fail;exact bodyPost_ret (v:=.tuple #[.slice U on d,I 0]) (by simp[results,results92,go_sem]) rfl ⟨⟨_,rfl,_,HF.out.1⟩,HF.out.2⟩
end
end Go.Proofs.YtgamgomepdfgdaaGreat
