import Derived.Test.YtgamgomepdfgdaaGreatAM13
import Derived.Test.YtgamgomepdfgdaaGreatAM09
set_option maxRecDepth 100000
set_option maxHeartbeats 8000000
namespace Go.Proofs.YtgamgomepdfgdaaGreat
open Go.RowKit Go.Proofs.Tryz
section
variable{c:Cfg}{q:List Pw}{ts:List TypeId}{b mb n0 sb yb:Nat}{S T:Nat->Prop}{f:Sm}{s:Ts}{ov qv:Value}{w w' w1 w2:World}{x:Xt}
attribute [local go_sem] Oper.semAt_some
def DE:List TypeId:=[201,99,110,210,240]
def bZ (w w':World)(S:Nat->Prop)(yb mb n0:Nat)(c:Cfg)(s:Ts):Prop:=aJ w' (aE S w) yb mb n0 c s/\ak w w' S DE
theorem bZ.of {U:Nat->Prop}(hb:Bl w w2)(hY:bI w' T yb mb n0 c s q sb qv ov x)(hn:¬aE S w mb)(hT:∀k,T k->aE S w k)(hx:x.n<=n0+4*s.outs.length)(hO:ak w2 w' U ts)(hU:∀k,U k->aE S w k)(hts:∀t∈ts,t∈DE):bZ w w' S yb mb n0 c s:=
 ⟨⟨q,sb,qv,ov,x,hY.mono hT hn,hx⟩,ak.mono (ak.trans (ts:=[]) (ak.below hb) hO hU) (λ_ h=>h) (by simpa using hts)⟩
theorem aE.over (h:w.heap.size<=w1.heap.size):∀k,aE S w1 k->aE S w k:=λ_ hk=>hk.imp (λe=>e) (e_ h)
theorem dP {t:Nat}:∀{l:List Sm},(∀x∈l,dv c b t x)->l.length<=az l
 |[],_=>k_ _
 |x::l,h=>by
  have h1:=dP λy hy=>h y (List.mem_cons_of_mem _ hy)
  have a:=S_.2 (h x (D_ ..)).ne
  unfold az at h1 ⊢
  rw[C_,List.sum_cons,List.length_cons]
  omega
theorem yz (h:bI w S yb mb n0 c s q sb qv ov x)(hx:x.n<=n0+4*s.outs.length)(hI:s.Inv c)(hc:c.Ok)(hi:s.ids.length<1048575000)(hs:s.segs=[]):
 c_ 171 #[ptr yb] w λe w'=>e=.returned (.bool (s.step c).isSome)/\bZ w w' S yb mb n0 c ((s.step c).getD s):=by
 obtain⟨F,D,l⟩:=h.z
 obtain rfl:D=[]:=by
  have:=l.rest.train.snd;rw[hs] at this;simpa using this
 have o:=oE yb 11 201 x.tv _ w h.box rfl l.rest.train.row;have i:=h.np
 have d:s.step c=if s.queue.isEmpty then none else some (s.pick c):=by
  unfold Ts.step;rw[hs]
 have v:=hd h;by_cases hq:s.queue=[]
 ·have a:s.step c=none:=by rw[d,hq];rfl
  rw[a]
  have p:q=[]:=by
   have:=h.qs;rw[hq] at this;simpa using this.eq_nil
  subst p;obtain⟨y,j,r⟩:=h.que.row.form;have m:Hid (∀W,Bl w W->c_ 207 #[Px yb] W λe w'=>e=.returned (.bool false)/\w'=W):=λW hW=>tE yb _ y j W (h.later hW).box (by rw[r];rfl);clear h l d a;unfold ptr;go_enter func171,ntmps171;go_wp2_with fail;go_fit o;rintro e t ⟨rfl,b⟩;have k:=m.out t b;go_wp2_with fail;go_fit k;rintro e C ⟨rfl,rfl⟩;go_wp2_with fail;go_ret;exact⟨rfl,bZ.of (ts:=[]) b (v.out.later b) i (aE.old w) hx (ak.refl _ S _) (aE.old w) (by simp)⟩
 have a:s.step c=some (s.pick c):=by rw[d,if_neg (by simpa using hq)]
 rw[a];have m:Hid (∀W,Bl w W->_):=λW hW=>DB (h.later hW) hI hc (by omega) hs hq;clear h l d a;unfold ptr;go_enter func171,ntmps171;go_wp2_with fail;go_fit o;rintro e t ⟨rfl,b⟩;have k:=m.out t b;go_wp2_with fail;go_fit k;rintro e C ⟨rfl,⟨E,A,B,g⟩,f⟩;have u:=hd (bZ.of b g i (aE.over b.size) hx f (aE.old w) (by decide));clear g f k o;go_wp2_with fail;go_ret;exact⟨rfl,u.out⟩
theorem gi (w:World)(n:Nat):Bl w (w.drewN n):=⟨rfl,rfl,rfl,b_ _,λ_ _=>rfl⟩
theorem wF {m:List Sm}(hs:s.segs=f::m):s.step c=if (aB s.tip f.l).2=0 then some (s.conflict f m)
 else if (aB s.tip f.l).2<f.l.length then some (s.split f (aB s.tip f.l).2 m)
 else if f.by_≠0 then some (s.land f m)
 else if c.retries<f.fails then some (s.blame f m)
 else none:=by
 unfold Ts.step;rw[hs]
theorem Ts.blame_outs (s:Ts)(f:Sm)(m:List Sm):s.outs.length<=(s.blame f m).outs.length:=by
 unfold Ts.blame Ts.split;split<;>simp
theorem yA (h:bI w S yb mb n0 c s q sb qv ov x)(hx:x.n<=n0+4*s.outs.length)(hI:s.Inv c)(hi:s.ids.length<1048575000)(h0:n0<1048576000){f:Sm}{m:List Sm}(hs:s.segs=f::m):
 c_ 171 #[ptr yb] w λe w'=>e=.returned (.bool (s.step c).isSome)/\bZ w w' S yb mb n0 c ((s.step c).getD s):=by
 obtain⟨tl,af,hZ⟩:=h.z
 obtain⟨p,A,rfl,rfl⟩:∃p A,af=(p,f)::A/\A.map Prod.snd=m:=by
  have:=hZ.rest.train.snd;rw[hs] at this;cases af with
  |nil=>simp at this
  |cons z A=>
   rw[C_,List.cons.injEq] at this;exact⟨z.1,A,by rw[<-this.1],this.2⟩
 have M:=hZ.rest.train.row;rw[List.length_cons,C_] at M;have hF:=oD yb 11 A.length 201 (ptr p) x.tv (some ⟨p,0,none⟩) rfl _ _ w h.box rfl M;have V:dv c s.begun s.now f:=hI.sm f (by rw[hs];simp);have P:=S_.2 V.ne
 have au:A.length+f.l.length<=8:=by
  have h1:=hI.tr;rw[hs] at h1;have h2:=dP (l:=A.map Prod.snd) λy hy=>hI.sm y (by rw[hs];exact List.mem_cons_of_mem _ hy);unfold az at h1 h2;rw[C_,List.sum_cons] at h1;rw[d_] at h2;omega
 have aC:s.outs.length<=s.ids.length:=by have:=hI.cnt;omega
 have ay:=hI.main;have E:=h.np;have ae:=wF (c:=c) hs;have HC:Hid (∀W,Bl w W->c_ 208 #[.map (some x.tip)] W λe w'=>e=.returned (.map (some W.heap.size))/\aD w' W.heap.size x.n s.tip/\Bl W w'):=λW hW=>yt x.tip x.n s.tip W (hZ.later hW).rest.map;have HZ:=hd hZ;have F:=hd ae;have ah:=hd V;have HI:=hd hI;have Y:=hd hx;clear h hZ M ae V hI hx hs;unfold ptr at hF;unfold ptr;go_enter func171,ntmps171;go_wp2_with fail;go_fit hF;rintro e w1 ⟨rfl,D⟩;have hC:=HC.out w1 D;have y7:=(HZ.out.later D).is.box.cell (i:=7) rfl;clear hF;go_wp2_with fail;go_fit hC;rintro e w2 ⟨rfl,R,ad⟩;have L:=D.trans (ad.mono D.size);obtain⟨cv,jv,cl,j⟩:=(HZ.out.later L).rest.train.segs (p,f) (by simp);have hA:=ry S (s.top n0) p w1.heap.size x.n f cv jv cl s.tip w2 j R (λy hy=>(ah.out.eds y hy).2) (by omega) (by have:=Y.out;omega);have O:=R;clear hC y7 j R;go_wp2_with fail;go_fit hA;rintro e Z ⟨rfl,ab,U⟩;have T:Bl w Z:=eH L (b_ _) U (B:=w.heap.size) (λr e=>by cases e;exact D.size) (b_ _);have N:=HZ.out.later T;obtain⟨cv,jv,cl,j⟩:=N.rest.train.segs (p,f) (by simp);have al:cl.length=f.l.length:=by rw[<-j.chs.fst,d_]
 obtain⟨g,am,ai,rfl,aA,ax⟩:=j.chs.row.addr (by omega);have c0:Z.cell? ⟨p,0,none⟩=some (s_ g am f.l.length ai):=by rw[<-al];exact j.box.cell (i:=0) rfl
 have av:w1.heap.size<Z.heap.size:=by
  have h1:=U.size;have h2:=O.lt;omega
 have t:=hd T;have aa:=hd (D.size);have G:=hd N;have ag:=hd ab;have ar:=hd j;have b:=oW p f.by_ _ Z j.box rfl (decide (f.by_≠0)) rfl;have d:=vm yb p f.fails c.retries _ _ Z N.is.box rfl j.box rfl (decide (c.retries<f.fails)) rfl;have aw:(aB s.tip f.l).2<=f.l.length:=dg _ _;clear D ad L T N ab j hA U O;generalize ha:(aB s.tip f.l).2=a at *;have HA:=hd ha;clear ha;unfold ptr at b d;by_cases ha0:a=0
 ·subst ha0;have C:=ww G.out (S_.1 P) (by omega) HI.out.ack (by omega);unfold ptr at C;clear b d;go_wp2_with fail;refine C.mono ?_;rintro e X ⟨rfl,⟨aH,ao,aq,J⟩,H⟩;have Q:Hid (bZ w X S yb mb n0 c (s.conflict f (A.map Prod.snd))):=bZ.of t.out J.is E (aE.over t.out.size) (by have:=Y.out;show x.n<=n0+4*(s.outs++_).length;rw[a_];omega) H (aE.old w) (by decide)
  have u:Hid (s.step c=some (s.conflict f (A.map Prod.snd))):=by
   show _=_;rw[F.out];simp
  clear J H C;go_wp2_with fail;go_ret;rw[u.out];exact⟨rfl,Q.out⟩
 have q1:((a:Int)==0)=false:=by simp;omega
 by_cases hal2:a<f.l.length
 ·have C:=yg (k:=a) G.out (by omega) hal2 (by omega) (by omega)
  have u:Hid (s.step c=some (s.split f a (A.map Prod.snd))):=by
   show _=_;rw[F.out,if_neg ha0,if_pos hal2]
  have q2:decide ((a:Int)<(f.l.length:Int))=true:=by rw[decide_eq_true_iff];omega
  have q3:(a:Int)<(f.l.length:Int):=by omega
  unfold ptr at C;clear b d;go_wp2_with fail;refine C.mono ?_;rintro e X ⟨rfl,⟨ao,aq,J,aF⟩,H⟩;have Q:=hd (bZ.of t.out J.is E (aE.over t.out.size) Y.out H (aE.old w) (by decide));clear J H C;go_wp2_with fail;go_ret;rw[u.out];exact⟨rfl,Q.out⟩
 have aj:a=f.l.length:=by omega
 have q2:decide ((a:Int)<(f.l.length:Int))=false:=by rw[decide_eq_false_iff_not];omega
 have q3:¬(a:Int)<(f.l.length:Int):=by omega
 by_cases hby:f.by_=0
 ·by_cases hfa:c.retries<f.fails
  ·have u:Hid (s.step c=some (s.blame f (A.map Prod.snd))):=by
    show _=_;rw[F.out,if_neg ha0,if_neg hal2,if_neg (by simpa using hby),if_pos hfa]
   have HR:Hid (∀n,_):=λn=>Cn (G.out.later (gi Z n)) (S_.1 P) (by omega) (by omega) HI.out.ack;have o:decide (f.by_≠0)=false:=by simpa using hby
   have v:decide (c.retries<f.fails)=true:=by simpa using hfa
   rw[o] at b;rw[v] at d;clear o v;go_wp2_with (first|(go_at_call 189;refine b.mono ?_;rintro e X ⟨rfl,rfl⟩)|(go_at_call 213;refine d.mono ?_;rintro e X ⟨rfl,nq,rfl⟩));have C:=HR.out nq;unfold ptr at C;refine C.mono ?_;rintro e w5 ⟨rfl,⟨an,ap,aJ,K⟩,I⟩;have Q:Hid (bZ w w5 S yb mb n0 c (s.blame f (A.map Prod.snd))):=bZ.of (t.out.trans ((gi _ nq).mono t.out.size)) K.is E (aE.over t.out.size) (by have:=Y.out;have:=Ts.blame_outs s f (A.map Prod.snd);show x.n<=_;omega) I (aE.old w) (by decide);clear K I C b d;go_wp2_with fail;go_ret;rw[u.out];exact⟨rfl,Q.out⟩
  have u:Hid (s.step c=none):=by
   show _=_;rw[F.out,if_neg ha0,if_neg hal2,if_neg (by simpa using hby),if_neg hfa]
  have o:decide (f.by_≠0)=false:=by simpa using hby
  have v:decide (c.retries<f.fails)=false:=by simpa using hfa
  rw[o] at b;rw[v] at d;clear o v;go_wp2_with (first|(go_at_call 189;refine b.mono ?_;rintro e X ⟨rfl,rfl⟩)|(go_at_call 213;refine d.mono ?_;rintro e X ⟨rfl,nq,rfl⟩));go_ret;rw[u.out];exact⟨rfl,bZ.of (ts:=[]) (t.out.trans ((gi _ nq).mono t.out.size)) (G.out.is.later (gi _ nq)) E (aE.old w) Y.out (ak.refl _ S _) (aE.old w) (by simp)⟩
 have u:Hid (s.step c=some (s.land f (A.map Prod.snd))):=by
  show _=_;rw[F.out,if_neg ha0,if_neg hal2,if_pos hby]
 have hM:=ag.out aj;have ac:=G.out.mono (aE.old w) E;have C:=DC ac hM (.inr aa.out) (by have:=HZ.out.is.sub.lt;have:=aa.out;omega) (by omega) (by omega) HI.out.ack (by omega);have o:decide (f.by_≠0)=true:=by simpa using hby
 rw[o] at b;unfold ptr at C;clear d hM ac o hby
 go_wp2_with (go_at_call 189;refine b.mono ?_;rintro e X ⟨rfl,rfl⟩);refine C.mono ?_;rintro e w5 ⟨rfl,⟨an,aG,ap,aI,K⟩,I⟩;have Q:Hid (bZ w w5 S yb mb n0 c (s.land f (A.map Prod.snd))):=bZ.of t.out K.is E (aE.two t.out.size) (by have:=Y.out;show x.n+4*f.l.length<=n0+4*(s.outs++lnd f.l).length;unfold lnd;rw[a_,d_];omega) I (λ_ h=>h) (by decide);clear K I C b;go_wp2_with fail;go_ret;rw[u.out];exact⟨rfl,Q.out⟩
theorem DD (h:aJ w S yb mb n0 c s)(hI:s.Inv c)(hc:c.Ok)(hi:s.ids.length<1048575000)(h0:n0<1048576000):
 c_ 171 #[ptr yb] w λe w'=>e=.returned (.bool (s.step c).isSome)/\bZ w w' S yb mb n0 c ((s.step c).getD s):=by
 obtain⟨q,g,d,b,x,h,a⟩:=h;cases hs:s.segs with
 |nil=>exact yz h a hI hc hi hs
 |cons f m=>exact yA h a hI hi h0 hs
end
section
open Go.Shelf
variable{g:ByteArray->ByteArray}{c:Cfg}{zs:List (Nat×Sm)}{ps:List Nat}{q:List Pw}{tl:List Tp}{B b2 b3 bm mb n n0 p sb yb:Nat}{S T:Nat->Prop}{row:Option Nat}{s:Ts}{ov qv:Value}{W W' w:World}{x:Xt}
structure fC (w W:World)(S:Nat->Prop)(yb n0:Nat)(c:Cfg)(s:Ts)(qv:Value)(sb:Nat)(ov:Value)(x:Xt)(zs:List (Nat×Sm))(b2 bm:Nat)(t:Bs):Prop where
 only:ak w W S [201,240]
 yard:Bx W yb 201 (aA c x t.b s.now qv sb s.outs.length ov)
 segs:∀z∈zs,dt W (aE S w) (s.top n0) (z.1,t.sg z.1)
 box:Bx W b2 132 #[.map (some bm)]
 me:Bx W w.heap.size 130 #[Px yb]
theorem fC.own {t:Bs}(h:fC w W S yb n0 c s qv sb ov x zs b2 bm t)(hw:w.heap.size<B)(hy:yb<B)(h2:b2<B)(hg:W.grownBy W' row)(hr:∀r,row=some r->B<=r/\∃o:Obj,W.heap[r]? =some o/\o.isCells=false):fC w W' S yb n0 c s qv sb ov x zs b2 bm t:=
 ⟨h.only.own (Nat.le_of_lt hw) hg λr e=>(hr r e).1,gx h.yard hg (λr e=>(hr r e).1) hy,λz hz=>(h.segs z hz).keptT (aM.own hg λr e=>(hr r e).2) (λ_ h=>h) (b_ _) (by decide) (by unfold dO;decide),gx h.box hg (λr e=>(hr r e).1) h2,gx h.me hg (λr e=>(hr r e).1) hw⟩
theorem AT (h:aD W bm n g)(hg:W.grownBy W' row)(hr:∀r,row=some r->B<=r)(hb:bm<B):aD W' bm n g:=h.same (hg.block bm h.lt λe=>by have:=hr bm e.symm;omega)
theorem fC.step {t t':Bs}{cb3:Array Value}(h:fC w W S yb n0 c s qv sb ov x zs b2 bm t){y:Sm}(hp:(p,y)∈zs)(hSy:S yb)(hSp:S p)(hyw:yb<w.heap.size)(hpw:p<w.heap.size)(hTp:cy w p 240)(hTy:cy w yb 201)(hb3:Bx W b3 3 cb3)(hbm:aD W bm n g)(hw3:w.heap.size<=b3)(hwm:w.heap.size<=bm)(hO:ai W W' (λk=>k=bm\/k=b3\/k=yb\/k=p))(hy:Bx W' yb 201 (aA c x t'.b s.now qv sb s.outs.length ov))(hs:dt W' (aE S w) (s.top n0) (p,t'.sg p))(hsg:∀k,k≠p->t'.sg k=t.sg k):fC w W' S yb n0 c s qv sb ov x zs b2 bm t':=by
 have j:=hb3.ty;have l:=hbm.ty;have m:=h.yard.ty
 have o:cy W p 240:=by
  obtain⟨_,_,_,i⟩:=h.segs (p,y) hp;exact i.box.ty
 have d:∀k ty,cy W k ty->ty∉[gI,3,201,240]->W'.heap[k]? =W.heap[k]? :=λk ty hk hn=>hO.block k hk.lt λe=>by
  rcases e with rfl|rfl|rfl|rfl
  ·exact hn (by rw[hk.one l];simp)
  ·exact hn (by rw[hk.one j];simp)
  ·exact hn (by rw[hk.one m];simp)
  exact hn (by rw[hk.one o];simp)
 have K:aM W W' [gI,3,201,240]:=⟨hO.size,λk ty hk hn=>d k ty hk hn⟩;refine⟨⟨hO.os.trans (ai.os h.only),hO.tape.trans (ai.tape h.only),hO.output.trans (ai.output h.only),e_ h.only.size hO.size,λk hk hn=>?_⟩,hy,λz i=>?_,(d _ _ h.box.ty (by decide)).trans h.box,(d _ _ h.me.ty (by decide)).trans h.me⟩
 ·refine(hO.block k (h_ hk h.only.size) λe=>?_).trans (ai.block h.only k hk hn);rcases e with rfl|rfl|rfl|rfl
  ·omega
  ·omega
  ·exact hn ⟨hSy,_,by simp,hTy⟩
  exact hn ⟨hSp,_,by simp,hTp⟩
 by_cases e:z.1=p
 ·rw[e];exact hs
 rw[hsg _ e];obtain⟨r,u,q,a⟩:=h.segs z i;refine⟨r,u,q,(hO.block _ a.box.lt λe'=>?_).trans a.box,a.chs.keptT K (λ_ h=>h) (by decide) (by decide),a.job.keptT K (λ_ h=>h) (b_ _) (by decide) (by decide),a.own⟩;have f:=a.box.ty;rcases e' with rfl|rfl|rfl|rfl
 ·exact absurd (f.one l) (by decide)
 ·exact absurd (f.one j) (by decide)
 ·exact absurd (f.one m) (by decide)
 exact e rfl
theorem fC.done {t:Bs}(hZ:aU w S yb mb n0 c s q sb qv ov x tl zs)(h:fC w W S yb n0 c s qv sb ov x zs b2 bm t)(he:bL c s.now c.window s.segs s.tip s.begun=(zs.map λz=>t.sg z.1,t.b)):aU W (aE S w) yb mb n0 c (s.begin c) q sb qv ov x tl (zs.map λz=>(z.1,t.sg z.1)):=by
 have O:=h.only;have a:=aE.old (S:=S) w;have g:(s.begin c).begun=t.b:=by unfold Ts.begin;rw[he]
 have d:(s.begin c).segs=zs.map λz=>t.sg z.1:=by unfold Ts.begin;rw[he]
 refine aU.mk' ⟨hZ.is.np,h_ hZ.rest.ml O.size,hZ.rest.tip.imp (λe=>e) .inl,O.map hZ.rest.map (by decide),hZ.rest.main.keptT O.k a (by decide) (by decide),?_,?_,hZ.rest.train.own.mono a,?_,λz hz=>?_⟩ hZ.is.qs ?_ (hZ.is.que.keptT O.k a (by decide) (by decide)) (O.sub hZ.is.sub (by decide)) (hZ.is.outs.keptT O.k a (by decide)) (.inl hZ.is.fy) (.inl hZ.is.fs) hZ.is.nt
 ·rw[y_,d];rfl
 ·have:=O.sl hZ.rest.train.row (by decide);rw[d_,y_];exact this
 ·have:=hZ.rest.train.nd;rw[y_];exact this
 ·obtain⟨i,f,rfl⟩:=q_.1 hz;exact h.segs i f
 rw[g];exact h.yard
def jn (zs:List (Nat×Sm))(p:Nat):Sm:=((zs.find? λz=>z.1==p).map Prod.snd).getD (Sm.new [])
theorem dZ {y:Sm}:∀{zs:List (Nat×Sm)},(zs.map Prod.fst).Nodup->(p,y)∈zs->jn zs p=y
 |[],_,h=>by cases h
 |a::l,hn,h=>by
  rw[C_,List.nodup_cons] at hn
  unfold jn
  rw[List.find?_cons]
  by_cases e:a.1=p
  ·have:a=(p,y):=by
    rcases R_.1 h with h|h
    ·exact h.symm
    exact absurd (q_.2 ⟨_,h,e.symm⟩) hn.1
   simp[this]
  have b:(p,y)∈l:=by
   rcases R_.1 h with h|h
   ·exact absurd (by rw[<-h]) e
   exact h
  have:=dZ hn.2 b;unfold jn at this;rw[show (a.1==p)=false by simpa using e];exact this
def bs0 (c:Cfg)(s:Ts)(zs:List (Nat×Sm)):Bs:=⟨jn zs,s.tip,s.begun,c.window⟩
theorem yE (hn:(zs.map Prod.fst).Nodup)(hs:zs.map Prod.snd=s.segs):(zs.map Prod.fst).map (bs0 c s zs).sg=s.segs:=by
 rw[<-hs,y_];exact List.map_congr_left λz hz=>dZ hn hz
theorem o5 (hn:(zs.map Prod.fst).Nodup)(hs:zs.map Prod.snd=s.segs)(m rest:List Nat)(hm:zs.map Prod.fst=m++rest)(hg:(bs0 c s zs).goes c s.now m)(hr:rest=[]\/∃p l,rest=p::l/\¬((bs0 c s zs).all c s.now m).go c p):
 bL c s.now c.window s.segs s.tip s.begun=(zs.map λz=>((bs0 c s zs).all c s.now m).sg z.1,((bs0 c s zs).all c s.now m).b):=by
 have:=ng (c:=c) (now:=s.now) m rest (bs0 c s zs) (hm▸hn) hg hr;rw[<-hm,yE hn hs,y_] at this;exact this
def ip (w W:World)(S:Nat->Prop)(yb n0:Nat)(c:Cfg)(s:Ts)(qv:Value)(sb:Nat)(ov:Value)(x:Xt)(zs:List (Nat×Sm))(b2 b3 bm:Nat)(pre:List Nat):Prop:=
 fC w W S yb n0 c s qv sb ov x zs b2 bm ((bs0 c s zs).all c s.now pre)/\Bx W b3 3 #[I ((bs0 c s zs).all c s.now pre).r]/\aD W bm (x.n+32*pre.length) ((bs0 c s zs).all c s.now pre).g/\(bs0 c s zs).goes c s.now pre
def jI (w W:World)(S:Nat->Prop)(yb n0:Nat)(c:Cfg)(s:Ts)(qv:Value)(sb:Nat)(ov:Value)(x:Xt)(zs:List (Nat×Sm))(b2 bm:Nat)(cd:Code)(pre:List Nat):Prop:=
 cd=.ret/\∃l p,pre=l++[p]/\fC w W S yb n0 c s qv sb ov x zs b2 bm ((bs0 c s zs).all c s.now l)/\(bs0 c s zs).goes c s.now l/\¬((bs0 c s zs).all c s.now l).go c p
theorem ip.own (hw:w.heap.size<B)(hy:yb<B)(h2:b2<B)(h3:b3<B)(hm:bm<B):OwnFrom B (λ(pre:List (Pt ps)) W=>ip w W S yb n0 c s qv sb ov x zs b2 b3 bm (pre.map Subtype.val)):=λ_ _ _ _ hs hg hr=>
 ⟨hs.1.own hw hy h2 hg hr,gx hs.2.1 hg (λr e=>(hr r e).1) h3,AT hs.2.2.1 hg (λr e=>(hr r e).1) hm,hs.2.2.2⟩
theorem jI.own (hw:w.heap.size<B)(hy:yb<B)(h2:b2<B)(cd:Code):OwnFrom B (λ(pre:List (Pt ps)) W=>jI w W S yb n0 c s qv sb ov x zs b2 bm cd (pre.map Subtype.val)):=λ_ _ _ _ hs hg hr=>by
 obtain⟨rfl,l,p,e,h,b,a⟩:=hs
 exact⟨rfl,l,p,e,h.own hw hy h2 hg hr,b,a⟩
theorem Bs.all_same (c:Cfg)(now:Nat):∀(l:List Nat) (t:Bs) (p:Nat),((t.all c now l).sg p).l=(t.sg p).l/\((t.all c now l).sg p).fails=(t.sg p).fails/\((t.all c now l).sg p).by_=(t.sg p).by_
 |[],_,_=>⟨rfl,rfl,rfl⟩
 |k::l,t,p=>by
  have h:=Bs.all_same c now l (t.step c now k) p
  have a:((t.step c now k).sg p).l=(t.sg p).l/\((t.step c now k).sg p).fails=(t.sg p).fails/\((t.step c now k).sg p).by_=(t.sg p).by_:=by
   unfold Bs.step Bs.put;by_cases e:p=k
   ·subst e;simp only[if_true];split<;>simp
   simp only[if_neg e,and_self]
  show ((((t.step c now k).all c now l).sg p).l=_)/\_;exact⟨h.1.trans a.1,h.2.1.trans a.2.1,h.2.2.trans a.2.2⟩
theorem fC.drewN {t:Bs}(h:fC w W S yb n0 c s qv sb ov x zs b2 bm t)(n:Nat):fC w (W.drewN n) S yb n0 c s qv sb ov x zs b2 bm t:=
 ⟨h.only.drewN n,h.yard,λz hz=>(h.segs z hz).keptT (aM.drewN W n) (λ_ h=>h) (b_ _) (by decide) (by unfold dO;decide),h.box,h.me⟩
theorem fC.bmOnly {t:Bs}(h:fC w W S yb n0 c s qv sb ov x zs b2 bm t)(hbm:aD W bm n g)(hwm:w.heap.size<=bm)(hO:ai W W' (λk=>k=bm)):fC w W' S yb n0 c s qv sb ov x zs b2 bm t:=by
 have b:=hbm.ty
 have a:∀k ty,cy W k ty->ty∉[gI]->W'.heap[k]? =W.heap[k]? :=λk ty hk hn=>hO.block k hk.lt λe=>by
  subst e;exact hn (by rw[hk.one b];simp)
 have K:aM W W' [gI]:=⟨hO.size,λk ty hk hn=>a k ty hk hn⟩;exact⟨⟨hO.os.trans (ai.os h.only),hO.tape.trans (ai.tape h.only),hO.output.trans (ai.output h.only),e_ h.only.size hO.size,λk hk hn=>(hO.block k (h_ hk h.only.size) (by omega)).trans (ai.block h.only k hk hn)⟩,(a _ _ h.yard.ty (by decide)).trans h.yard,λz hz=>(h.segs z hz).keptT K (λ_ h=>h) (b_ _) (by decide) (by unfold dO;decide),(a _ _ h.box.ty (by decide)).trans h.box,(a _ _ h.me.ty (by decide)).trans h.me⟩
theorem lL (hO:ai W W' T)(hT:∀k,T k->k<B):KeepsFrom B W W':=⟨hO.size,λk _ hB hk _=>(hO.block k (j_.1 hk).1 λe=>by have:=hT k e;omega).trans hk⟩
theorem mh {y:Sm}:∀{l:List Sm},y∈l->y.l.length<=az l
 |[],h=>by cases h
 |x::l,h=>by
  unfold az
  rw[C_,List.sum_cons]
  rcases R_.1 h with rfl|h
  ·omega
  have:=mh h
  unfold az at this
  omega
theorem Bs.all_r (c:Cfg)(now:Nat):∀(l:List Nat) (t:Bs),(t.all c now l).r<=t.r
 |[],_=>b_ _
 |k::l,t=>e_ (Bs.all_r c now l (t.step c now k)) (Nat.sub_le _ _)
theorem Bs.all_b (c:Cfg)(now:Nat):∀(l:List Nat) (t:Bs),(t.all c now l).b<=t.b+l.length
 |[],_=>b_ _
 |k::l,t=>by
  have h:=Bs.all_b c now l (t.step c now k)
  have a:(t.step c now k).b<=t.b+1:=by
   unfold Bs.step;simp only;split<;>omega
  show ((t.step c now k).all c now l).b<=_;rw[List.length_cons];omega
end
section
open Go.Shelf
variable{a:Act}{c:Cfg}{q:List Pw}{k mb n n0 sb yb:Nat}{S:Nat->Prop}{P:Program}{s:Ts}{ov qv:Value}{w:World}{x:Xt}
attribute [local go_sem] Oper.semAt_some
theorem wG (mb:Nat)(es:Array MapEntry)(clock:Nat)(w:World)(hb:w.heap[mb]? =some (.map es clock)):
 c_ 208 #[.map (some mb)] w λe w'=>e=.returned (.map (some w.heap.size))/\w'=w.alloc (.map es clock):=by
 go_enter func208,ntmps208;go_wp2_with fail;go_fit (o4 mb es clock w hb);rintro e a ⟨rfl,rfl⟩;go_wp2_with fail;go_ret;exact⟨rfl,rfl⟩
theorem tI {x:Code}{K:Act->World->Prop}{Q:Exit->Act->World->Prop}(h:x.wp P (Exit.then K λ_ _ _=>False) a w):x.wpIn Fence.wide n P (Exit.then K Q) a w:=
 wpIn_mono (wpIn_wide.2 h) λe a w hq=>by cases e<;>first|exact hq|exact hq.elim
theorem kT {F:Fence}{x:Code}{Q:Exit->Act->World->Prop}(R:World->Prop)(hR:∀a W',R W'->Q .normal a W')(h:x.wpIn F n P (λe _ W'=>e=.normal/\R W') a w):x.wpIn F n P Q a w:=
 wpIn_mono h λe a W' hq=>by
  obtain⟨rfl,b⟩:=hq
  exact hR a W' b
theorem fU {o0:Obj}(h:w.heap[k]? =some o0)(o:Obj):(w.alloc o).heap[k]? =some o0:=((af w o).block k (j_.1 h).1).trans h
theorem wH (w:World)(A B C:Obj):(((w.alloc A).alloc B).alloc C).heap[w.heap.size]? =some A/\(((w.alloc A).alloc B).alloc C).heap[w.heap.size+1]? =some B/\(((w.alloc A).alloc B).alloc C).heap[w.heap.size+1+1]? =some C/\Bl w (((w.alloc A).alloc B).alloc C):=by
 have c:(w.alloc A).heap.size=w.heap.size+1:=World.size_alloc ..;have e:((w.alloc A).alloc B).heap.size=w.heap.size+1+1:=by rw[World.size_alloc,c]
 have d:=World.alloc_heap_new w A;have a:=World.alloc_heap_new (w.alloc A) B;have b:=World.alloc_heap_new ((w.alloc A).alloc B) C;rw[c] at a;rw[e] at b;exact⟨fU (fU d _) _,fU a _,b,((af w _).trans ((af _ _).mono (by omega))).trans ((af _ _).mono (by omega))⟩
def Ct (w W:World)(es:Array MapEntry)(clock:Nat)(win:Nat)(b2 b3 bm:Nat):Prop:=
 Bl w W/\w.heap.size<=b2/\w.heap.size<=b3/\Bx W b2 132 #[.map (some bm)]/\Bx W b3 3 #[I win]/\W.heap[bm]? =some (.map es clock)/\w.heap.size<=bm
set_option linter.unusedSimpArgs false in
theorem Cs (h:bI w S yb mb n0 c s q sb qv ov x)(hx:x.n<=n0+4*s.outs.length)(hI:s.Inv c)(hc:c.Ok)(hi:s.ids.length<1048575000)(h0:n0<1048576000)(hbg:s.begun<1048576000)(hnw:s.now<1048576000):
 Calls prog 172 #[ptr yb] w λe w'=>e=.returned (.tuple #[])/\aJ w' (aE S w) yb mb n0 c (s.begin c)/\ak w w' S [201,240]:=by
 obtain⟨tl,zs,hZ⟩:=h.z
 obtain⟨D,⟨es,P,hm,hF⟩,hD⟩:=hZ.rest.map
 have bR:x.tip<w.heap.size:=(Array.getElem?_eq_some_iff.1 hm).1
 have bU:=h.box.lt
 have a5:=hZ.later (af w (.cells #[Px yb] 130))
 have y7:(w.alloc (.cells #[Px yb] 130)).cell? ⟨yb,7,none⟩=some (.map (some x.tip)):=a5.is.box.cell (i:=7) rfl
 have y3:(w.alloc (.cells #[Px yb] 130)).cell? ⟨yb,3,none⟩=some (I c.window):=a5.is.box.cell (i:=3) rfl
 have b0:(w.alloc (.cells #[Px yb] 130)).cell? ⟨w.heap.size,0,none⟩=some (Px yb):=(Bx.new w #[Px yb] 130).cell (i:=0) rfl
 have am:Hid ((w.alloc (.cells #[Px yb] 130)).heap.size=w.heap.size+1):=by
  show _=_
  simp
 have bE:Hid ((w.alloc (.cells #[Px yb] 130)).heap[x.tip]? =some (.map es P)):=(af w _).block _ bR|>.trans hm
 have bl:Hid (Bl w (w.alloc (.cells #[Px yb] 130))):=af _ _
 have HZ:=hd hZ
 have bF:Hid (∀W bm,W.heap[bm]? =some (.map es P)->aD W bm x.n s.tip):=λW bm hb=>⟨D,⟨es,P,hb,hF⟩,hD⟩
 have HI:=hd hI
 have HX:=hd hx
 have bf:Hid (Bx (w.alloc (.cells #[Px yb] 130)) w.heap.size 130 #[Px yb]):=Bx.new _ _ _
 have bX:zs.length<=8:=by
  have h1:=dP hI.sm
  have h2:=hI.tr
  have h3:(zs.map Prod.snd).length=s.segs.length:=by rw[hZ.rest.train.snd]
  rw[List.length_map] at h3
  omega
 clear hZ a5 h hF hD hI hx hm
 unfold ptr
 refine(callsIn_wide (n:=3)).1 ?_
 refine callsIn_of_wp_marks func172 rfl trivial ?_ rfl
 simp only[ntmps172,List.size_toArray,List.length_cons,List.length_nil,Nat.reduceAdd,Nat.reduceSub,Array.replicate_succ,Array.replicate_zero,List.push_toArray,List.append_toArray,List.nil_append,List.cons_append]
 gi_upto_region 1 with fail
 generalize w.alloc (.cells #[Px yb] 130)=w1 at *
 gi_cut [2,3] from 4 (λv2 v3 wz=>∃b2 b3 bm,v2=Px b2/\v3=Px b3/\Hid (Ct w1 wz es P c.window b2 b3 bm))
 case first=>
  have cq:w1.heap.size≠yb:=by have:=am.out;omega
  have cr:w1.heap.size+1≠yb:=by have:=am.out;omega
  have bD:w1.heap.size+1+1≠yb:=by have:=am.out;omega
  have cn:w1.heap.size≠w.heap.size:=by have:=am.out;omega
  have co:w1.heap.size+1≠w.heap.size:=by have:=am.out;omega
  have cp:w1.heap.size+1+1≠w.heap.size:=by have:=am.out;omega
  refine tI ?_
  go_region_held_law (λw'=>w'.cell? ⟨w.heap.size,0,none⟩=some (Px yb)/\w'.cell? ⟨yb,7,none⟩=some (.map (some x.tip))/\w'.cell? ⟨yb,3,none⟩=some (I c.window)) (simp (maxDischargeDepth:=9) [*,World.cell?_alloc_some]) ((go_at_call 208;refine(wG x.tip es P _ (by repeat (first|exact bE.out|refine fU ?_ _))).mono ?_;rintro e w4 ⟨rfl,rfl⟩))
  all_goals
   go_wp2_with fail
   go_meet
   obtain⟨ha,hb,hc,hB⟩:=wH w1 _ _ _
   exact⟨_,_,_,rfl,rfl,⟨hB.os,hB.tape,hB.output,hB.size,hB.block⟩,by omega,by omega,by first|exact ha|exact hb|exact hc,by first|exact ha|exact hb|exact hc,by first|exact ha|exact hb|exact hc,by omega⟩
 obtain⟨b2,b3,bm,rfl,rfl,bh⟩:=hcut
 obtain⟨aR,a6,aP,a1,a2,a3,bM⟩:=bh.out
 have aQ:Bl w wc:=bl.out.trans (aR.mono bl.out.size)
 have aO:=HZ.out.later aQ
 obtain⟨ta,A,aS⟩:=aO.rest.train.row.form
 have a8:(zs.map Prod.fst).length=zs.length:=List.length_map _
 have bK:wc.cell? ⟨yb,11,none⟩=some (.slice ta zs.length A):=by rw[<-aS];exact aO.is.box.cell (i:=11) rfl
 have bj:Hid (Sl wc 210 1 (.slice ta zs.length A) zs.length ((zs.map Prod.fst).map ptr)):=by
  have:=aO.rest.train.row
  rw[aS] at this
  show Sl _ _ _ _ _ _
  rw[List.map_map]
  exact this
 have bk:Hid (Bl wc (wc.alloc (.cells #[.slice ta zs.length A] 195))):=af _ _
 have bH:=hd aS
 have b4:=am.out
 have a7:Bx wc w.heap.size 130 #[Px yb]:=(aR.block _ bf.out.lt).trans bf.out
 have bZ:=a7.cell (i:=0) rfl
 have b8:b2<wc.heap.size:=a1.lt
 have b9:b3<wc.heap.size:=a2.lt
 have cb:bm<wc.heap.size:=(Array.getElem?_eq_some_iff.1 a3).1
 have cj:w1.heap.size<=wc.heap.size:=aR.size
 have b1:wc.heap.size+1=(wc.alloc (.cells #[.slice ta zs.length A] 195)).heap.size:=(World.size_alloc ..).symm
 have aY:Hid (fC w (wc.alloc (.cells #[.slice ta zs.length A] 195)) S yb n0 c s qv sb ov x zs b2 bm (bs0 c s zs)/\Bx (wc.alloc (.cells #[.slice ta zs.length A] 195)) b3 3 #[I c.window]/\aD (wc.alloc (.cells #[.slice ta zs.length A] 195)) bm (x.n+32*0) s.tip):=by
  have bs:Bl w (wc.alloc (.cells #[.slice ta zs.length A] 195)):=aQ.trans (bk.out.mono aQ.size)
  have bq:=HZ.out.later bs
  refine⟨⟨ak.below bs,bq.is.box,λz hz=>?_,a1.mk _,?_⟩,a2.mk _,bF.out _ _ (fU a3 _)⟩
  ·have:=(bq.rest.train.segs z hz).kept (λ_ _ _=>rfl) (aE.old w) (Nat.le_refl _)
   rwa [show (z.1,(bs0 c s zs).sg z.1)=z by show (z.1,jn zs z.1)=z;rw[dZ HZ.out.rest.train.nd hz]]
  exact a7.mk _
 have aV:Hid (w.heap.size<=b2/\w.heap.size<=b3/\w.heap.size<=bm):=by
  show _/\_/\_
  omega
 clear bh aR a1 a2 a3 aQ aO aS a6 aP bM a7
 gi_wp2_with (refine⟨trivial,?_⟩;gi_at_call 147;refine(callsIn_wide.2 (im yb ta zs.length A wc bK)).mono ?_;rintro e w' ⟨rfl,rfl⟩)
 generalize bC:wc.alloc (.cells #[.slice ta zs.length A] 195)=wn at *
 have bN:wn.cell? ⟨wc.heap.size,0,none⟩=some (.slice ta zs.length A):=by rw[<-bC];simp
 have bi:Hid (Sl wn 210 1 (.slice ta zs.length A) (zs.map Prod.fst).length ((zs.map Prod.fst).map ptr)):=by
  show Sl _ _ _ _ _ _
  rw[a8];exact bj.out.later bk.out
 clear bC
 refine wpIn_rangeFunc_ownG (α:=Pt (zs.map Prod.fst)) (n:=3) (F:=Fence.wide) rfl (by decide) (gf:=223) (lb:=#[Px wc.heap.size]) rfl trivial (enters_of func223 (by kernel_rfl) rfl)
  (fR Fence.wide 2 trivial rfl (by decide) wc.heap.size (.slice ta zs.length A) (zs.map Prod.fst) (by rw[a8];omega) wn (by omega) bN bi.out) iP (jC λg hg=>bi.out.lt hg) (Below.refl _ _) (λ_=>rfl)
  (λm W=>ip w W S yb n0 c s qv sb ov x zs b2 b3 bm (m.map Subtype.val)) (λcd m W=>jI w W S yb n0 c s qv sb ov x zs b2 bm cd (m.map Subtype.val)) (ip.own (by omega) (by omega) (by omega) (by omega) (by omega)) (λcd=>jI.own (by omega) (by omega) (by omega) cd) ⟨aY.out.1,aY.out.2.1,aY.out.2.2,trivial⟩
  (λy=>{tmps:=#[Px yb,Px w.heap.size,Px b2,Px b3,Px y.1,u5,u6,u7,u8,u9,u10,u11,u12,u13,u14,Px yb,Px yb,.pointer (some ⟨yb,11,none⟩),.func (.func 223) #[] #[Px wc.heap.size],Px y.1,u20,u21,u22,u23,u24,u25,u26,u27,u28,u29,u30,u31,u32,u33,u34,u35,u36,u37,u38,u39,u40,u41,u42,u43,u44,u45,u46,u47,u48,u49,u50,u51,u52,u53,u54,u55,u56,u57,u58,u59,u60,u61,u62,u63,u64,u65,u66,u67,u68,u69,u70,u71,u72,u73,u74,u75,u76,u77],defers:=[]}) ?assign ?body ?done ?stop
 case assign=>
  intro l y W K O
  unfold ptr
  gi_wp2
  exact O
 case body=>
  rintro l m ⟨p,hp⟩ W ⟨hB,aN,hM,hG⟩ bz
  obtain⟨⟨a,y⟩,hz,rfl⟩:=List.mem_map.1 hp
  have HG:=hd hG
  have ad:=Bs.all_same c s.now (m.map Subtype.val) (bs0 c s zs) a
  rw[show (bs0 c s zs).sg a=y from dZ HZ.out.rest.train.nd hz] at ad
  have bG:Hid (dv c s.begun s.now y):=HI.out.sm y (by rw[<-HZ.out.rest.train.snd];exact List.mem_map_of_mem hz)
  rw[List.length_map] at hM
  generalize ht:(bs0 c s zs).all c s.now (m.map Subtype.val)=t at hB aN hM ad
  have Ht:=hd ht
  obtain⟨cv,jv,Z,aF⟩:=hB.segs (a,y) hz
  simp only at aF
  have aP:=aN.cell (i:=0) rfl
  have a6:=hB.box.cell (i:=0) rfl
  have br:=hB.me.cell (i:=0) rfl
  have HB:=hd hB
  have al:=hd aN
  have HM:=hd hM
  have f:=hd aF
  have ab:=hd ad
  clear hB aN hM aF hG ht ad
  by_cases hr:t.r=0
  ·have q1:((t.r:Int)==0)=true:=by simp[hr]
   have HN:Hid (∀n,jI w (W.drewN n) S yb n0 c s qv sb ov x zs b2 bm .ret ((m++[(⟨a,hp⟩:Pt (zs.map Prod.fst))]).map Subtype.val)):=λn=>by
    refine⟨rfl,m.map Subtype.val,a,by simp,?_,HG.out,?_⟩
    ·rw[Ht.out];exact HB.out.drewN n
    rw[Ht.out];exact λh=>h.1 hr
   rw[hr] at aP
   refine wpIn_block (wpIn_seq (wpIn_seq (bY rfl (by kernel_rfl) rfl ?_)))
   repeat (first|go_big_quiet_step (fail)|quiet_step (fail))
   refine wpQuiet_nil ?_
   rintro _ ⟨T,rfl⟩
   show Code.wpIn _ _ _ _ _ _ _
   gi_wp2
   exact⟨fS _ _,HN.out T⟩
  have ce:((t.r:Int)==0)=false:=by simp;omega
  have au:Hid (y.l.length<=8):=by
   show _<=_
   have h1:=HI.out.tr
   have h2:y.l.length<=az s.segs:=mh (by rw[<-HZ.out.rest.train.snd];exact List.mem_map_of_mem hz)
   omega
  have a0:Hid (s.outs.length<=s.ids.length):=by
   show _<=_
   have:=HI.out.cnt
   omega
  obtain⟨ca,C,rfl⟩:=f.out.chs.row.form
  have c0:=f.out.box.c 0 (.slice ca Z.length C)
  have bB:q7 W.drew (aE S w) (s.top n0) a (t.sg a) (.slice ca Z.length C) jv Z:=⟨f.out.box,f.out.chs.keptT (aM.drewN W 1) (λ_ h=>h) (by decide) (by decide),f.out.job.keptT (aM.drewN W 1) (λ_ h=>h) (Nat.le_refl _) (by decide) (by decide),f.out.own⟩
  have hA:=ry (aE S w) (s.top n0) a bm (x.n+32*m.length) (t.sg a) _ jv Z t.g W.drew bB (HM.out.same rfl) (by rw[ab.out.1];exact λy hy=>(bG.out.eds y hy).2) (by rw[ab.out.1];exact au.out) (by have:=HX.out;have:=a0.out;omega)
  unfold ptr at hA
  refine wpIn_block (wpIn_seq (wpIn_seq (fp (S:=λw'=>w'.cell? ⟨b3,0,none⟩=some (I t.r)/\w'.cell? ⟨b2,0,none⟩=some (.map (some bm))/\w'.cell? ⟨a,0,none⟩=some (.slice ca Z.length C)/\w'.cell? ⟨w.heap.size,0,none⟩=some (Px yb)) rfl rfl (λ⟨_,_,h⟩=>h) ⟨aP,a6,c0,br⟩ (λhHeld=>?_))))
  refine tk 0 ?_
  refine tk 1 ?_
  refine tk 2 ?_
  refine tk 3 ?_
  refine tk 4 ?_
  refine tk 6 ?_
  refine tk 7 ?_
  refine tk 8 ?_
  refine tk 9 ?_
  refine tk 10 ?_
  refine wpAnyH_ready (rs:=[5]) (by kernel_rfl) (by simp) ?_
  refine AllReadyH.cons rfl (λK O=>?_) AllReadyH.nil
  go_simp
  go_wp2_with (go_at_call 209;refine hA.mono ?_;rintro e E ⟨rfl,bp,aq⟩)
  have k5:∀k,k<W.heap.size->k≠bm->E.heap[k]? =W.heap[k]? :=λk R hn=>aq.block k R (λe=>hn (by simpa using e))
  have M:Bx E b3 3 #[I t.r]:=(k5 _ al.out.lt (HM.out.ne_box al.out).symm).trans al.out
  have B2:Bx E b2 132 #[.map (some bm)]:=(k5 _ HB.out.box.lt (HM.out.ne_box HB.out.box).symm).trans HB.out.box
  have U:Bx E a 240 (cz (.slice ca Z.length C) (t.sg a).fails (t.sg a).by_ jv):=(k5 _ f.out.box.lt (HM.out.ne_box f.out.box).symm).trans f.out.box
  have V:Bx E w.heap.size 130 #[Px yb]:=(k5 _ HB.out.me.lt (HM.out.ne_box HB.out.me).symm).trans HB.out.me
  have H:Bx E yb 201 (aA c x t.b s.now qv sb s.outs.length ov):=(k5 _ HB.out.yard.lt (HM.out.ne_box HB.out.yard).symm).trans HB.out.yard
  refine O.out _ _ ⟨M.cell (i:=0) rfl,B2.cell (i:=0) rfl,U.cell (i:=0) rfl,V.cell (i:=0) rfl⟩ (λhHeld=>?_)
  clear O K
  have bt:Z.length=(t.sg a).l.length:=mg f.out.chs
  have aZ:Hid (ai W E (λk=>k=bm)):=⟨aq.os,aq.tape,aq.output,aq.size,λk R hn=>k5 k R hn⟩
  have bd:=hd bp
  have ba:Hid (Bx E b3 3 #[I t.r]/\Bx E b2 132 #[.map (some bm)]/\Bx E a 240 (cz (.slice ca Z.length C) (t.sg a).fails (t.sg a).by_ jv)/\Bx E w.heap.size 130 #[Px yb]/\Bx E yb 201 (aA c x t.b s.now qv sb s.outs.length ov)):=⟨M,B2,U,V,H⟩
  have J:=vm yb a (t.sg a).fails c.retries _ _ E H rfl U rfl (decide (c.retries<(t.sg a).fails)) rfl
  have ar:Hid (¬t.go c a->∀W',ai W W' (λk=>k=bm)->KeepsFrom wn.heap.size W W'/\jI w W' S yb n0 c s qv sb ov x zs b2 bm .ret ((m++[(⟨a,hp⟩:Pt (zs.map Prod.fst))]).map Subtype.val)):=λhn W' hO=>by
   refine⟨lL hO λk e=>by omega,rfl,m.map Subtype.val,a,by simp,?_,HG.out,?_⟩
   ·rw[Ht.out];exact HB.out.bmOnly HM.out aV.out.2.2 hO
   rw[Ht.out];exact hn
  have cc:=dg (t.sg a).l t.g
  unfold ptr at J
  clear bp aq k5 M B2 U V H hA bB
  generalize bw:(aB t.g (t.sg a).l).2=k0 at *
  have bc:=hd bw
  have aH:=hd bt
  clear bw bt
  by_cases hlt:k0<(t.sg a).l.length
  ·have qd:decide ((k0:Int)<(Z.length:Int))=true:=by rw[decide_eq_true_iff];have:=aH.out;omega
   have ql:(k0:Int)<(Z.length:Int):=by have:=aH.out;omega
   refine tk 11 ?_
   refine tk 12 ?_
   refine tk 13 ?_
   refine wpAnyH_take (i:=14) (v:=undef) rfl (by kernel_rfl) (by kernel_rfl) (by kernel_rfl) (λ_ _ _ h=>h) (Or.inr ⟨by rfl,rfl⟩) (by assumption) ?_
   try simp only[Act.put,List.getElem_toArray,List.getElem_cons_zero,List.getElem_cons_succ,List.setIfInBounds_toArray,List.set_cons_zero,List.set_cons_succ]
   refine wpAnyH_take (i:=15) (v:=undef) rfl (by kernel_rfl) (by kernel_rfl) (by kernel_rfl) (λ_ _ _ h=>h) (Or.inr ⟨by rfl,rfl⟩) (by assumption) ?_
   try simp only[Act.put,List.getElem_toArray,List.getElem_cons_zero,List.getElem_cons_succ,List.setIfInBounds_toArray,List.set_cons_zero,List.set_cons_succ]
   refine wpAnyH_take (i:=16) (v:=undef) rfl (by kernel_rfl) (by kernel_rfl) (by kernel_rfl) (λ_ _ _ h=>h) (Or.inr ⟨by rfl,rfl⟩) (by assumption) ?_
   try simp only[Act.put,List.getElem_toArray,List.getElem_cons_zero,List.getElem_cons_succ,List.setIfInBounds_toArray,List.set_cons_zero,List.set_cons_succ]
   refine tk 17 ?_
   refine wpAnyH_done (by kernel_rfl) ?_ _
   show Code.wpIn _ _ _ _ _ _ _
   gi_wp2
   exact ar.out (λh=>h.2.1 (by rw[bc.out];exact hlt)) E aZ.out
  have qd:decide ((k0:Int)<(Z.length:Int))=false:=by rw[decide_eq_false_iff_not];have:=aH.out;omega
  have ql:¬(k0:Int)<(Z.length:Int):=by have:=aH.out;omega
  refine tk 11 ?_
  refine tk 12 ?_
  refine tk 13 ?_
  refine tk 14 ?_
  refine tk 15 ?_
  by_cases hfa:c.retries<(t.sg a).fails
  ·rw[show decide (c.retries<(t.sg a).fails)=true by simpa using hfa] at J
   refine wpAnyH_ready (rs:=[16]) (by kernel_rfl) (by simp) ?_
   refine AllReadyH.cons rfl (λK O=>?_) AllReadyH.nil
   go_simp
   go_wp2_with (go_at_call 213;refine J.mono ?_;rintro e w6 ⟨rfl,T,rfl⟩)
   refine O.out _ _ hHeld (λhHeld=>?_)
   clear O K
   refine tk 17 ?_
   refine wpAnyH_done (by kernel_rfl) ?_ _
   show Code.wpIn _ _ _ _ _ _ _
   gi_wp2
   exact ar.out (λh=>h.2.2 hfa) _ (ai.trans aZ.out (⟨rfl,rfl,rfl,Nat.le_refl _,λ_ _ _=>rfl⟩:ai E (E.drewN T) (λk=>k=bm)) λ_ h=>.inl h)
  rw[show decide (c.retries<(t.sg a).fails)=false by simpa using hfa] at J
  refine wpAnyH_ready (rs:=[16]) (by kernel_rfl) (by simp) ?_
  refine AllReadyH.cons rfl (λK O=>?_) AllReadyH.nil
  go_simp
  go_wp2_with (go_at_call 213;refine J.mono ?_;rintro e w6 ⟨rfl,T,rfl⟩)
  refine O.out _ _ hHeld (λhHeld=>?_)
  clear O K
  refine tk 17 ?_
  refine wpAnyH_done (by kernel_rfl) ?_ _
  show Code.wpIn _ _ _ _ _ _ _
  have ch:1<=t.r:=by omega
  have ci:t.r<=4:=by
   have h1:=Bs.all_r c s.now (m.map Subtype.val) (bs0 c s zs)
   rw[Ht.out] at h1
   exact Nat.le_trans h1 hc.2.2.2.1.2
  have bO:t.go c a:=⟨hr,by rw[bc.out];exact hlt,hfa⟩
  have aT:Hid (∀W',ai W W' (λk=>k=bm\/k=b3\/k=yb\/k=a)->Bx W' b3 3 #[I ((t.r-1:Nat):Int)]->aD W' bm (x.n+32*m.length+4*(t.sg a).l.length) (aB t.g (t.sg a).l).1->Bx W' yb 201 (aA c x (t.step c s.now a).b s.now qv sb s.outs.length ov)->dt W' (aE S w) (s.top n0) (a,(t.step c s.now a).sg a)->KeepsFrom wn.heap.size W W'/\jD (.slice ta zs.length A) W W'/\ip w W' S yb n0 c s qv sb ov x zs b2 b3 bm ((m++[(⟨a,hp⟩:Pt (zs.map Prod.fst))]).map Subtype.val)):=λW' hO h3 hM' hy hs=>by
   obtain⟨_,_,_,a9⟩:=HZ.out.rest.train.segs (a,y) hz
   have bA:=a9.box.lt
   have aC:=HB.out.only.sl HZ.out.rest.train.row (by decide)
   rw[bH.out] at aC
   have e1:(m++[(⟨a,hp⟩:Pt (zs.map Prod.fst))]).map Subtype.val=m.map Subtype.val++[a]:=by simp
   have bQ:(t.sg a).l.length<=8:=by rw[ab.out.1];exact au.out
   refine⟨lL hO λk e=>by simp only at bA;omega,λg hg=>hO.block g (aC.lt hg) λe=>?_,?_⟩
   ·have Tg:=aC.ty hg
    rcases e with rfl|rfl|rfl|rfl
    ·exact absurd (Tg.one HM.out.ty) (by decide)
    ·exact absurd (Tg.one al.out.ty) (by decide)
    ·exact absurd (Tg.one HB.out.yard.ty) (by decide)
    exact absurd (Tg.one f.out.box.ty) (by decide)
   rw[e1]
   unfold ip
   rw[Bs.all_snoc,Ht.out]
   refine⟨HB.out.step hz HZ.out.is.fy a9.own bU bA a9.box.ty HZ.out.is.box.ty al.out HM.out aV.out.2.1 aV.out.2.2 hO hy hs λk R=>by simp[Bs.step,R],h3,?_,Bs.goes_snoc HG.out (by rw[Ht.out];exact bO)⟩
   have:x.n+32*m.length+4*(t.sg a).l.length<=x.n+32*(m.map Subtype.val++[a]).length:=by simp;omega
   exact hM'.more this
  have bP:k0=(t.sg a).l.length:=by omega
  have aI:=bd.out bP
  obtain⟨M,B2,U,V,H⟩:=ba.out
  have f3:(E.drewN T).frozen? ⟨b3,0,none⟩=false:=M.fr 0
  have g3:(E.drewN T).cell? ⟨b3,0,none⟩=some (I t.r):=M.cell (i:=0) rfl
  have n2:b3≠b2:=λe=>by subst e;exact absurd (M.ty.one B2.ty) (by decide)
  have np:b3≠a:=λe=>by subst e;exact absurd (M.ty.one U.ty) (by decide)
  have nm:b3≠w.heap.size:=λe=>by rw[e] at M;exact absurd (M.ty.one V.ty) (by decide)
  have ny:b3≠yb:=λe=>by subst e;exact absurd (M.ty.one H.ty) (by decide)
  have nb:b3≠bm:=λe=>by subst e;exact absurd (M.ty.one aI.ty) (by decide)
  have aW:Hid ((t.r:Int)-1=((t.r-1:Nat):Int)):=by
   show _=_
   omega
  have aL:Hid (ai W ((E.drewN T).setCell ⟨b3,0,none⟩ (I ((t.r-1:Nat):Int))) (λk=>k=bm\/k=b3)):=ai.set (ai.trans (aZ.out.mono λ_ h=>.inl h) (⟨rfl,rfl,rfl,Nat.le_refl _,λ_ _ _=>rfl⟩:ai E (E.drewN T) (λk=>k=bm\/k=b3)) λ_ h=>.inl h) (.inl (.inr rfl))
  have an:Hid (Bx ((E.drewN T).setCell ⟨b3,0,none⟩ (I ((t.r-1:Nat):Int))) b3 3 #[I ((t.r-1:Nat):Int)]/\Bx ((E.drewN T).setCell ⟨b3,0,none⟩ (I ((t.r-1:Nat):Int))) b2 132 #[.map (some bm)]/\Bx ((E.drewN T).setCell ⟨b3,0,none⟩ (I ((t.r-1:Nat):Int))) a 240 (cz (.slice ca Z.length C) (t.sg a).fails (t.sg a).by_ jv)/\Bx ((E.drewN T).setCell ⟨b3,0,none⟩ (I ((t.r-1:Nat):Int))) w.heap.size 130 #[Px yb]/\Bx ((E.drewN T).setCell ⟨b3,0,none⟩ (I ((t.r-1:Nat):Int))) yb 201 (aA c x t.b s.now qv sb s.outs.length ov)/\aD ((E.drewN T).setCell ⟨b3,0,none⟩ (I ((t.r-1:Nat):Int))) bm (x.n+32*m.length+4*(t.sg a).l.length) (aB t.g (t.sg a).l).1):=
   ⟨Bx.set (w:=E.drewN T) M 0 _,Bx.other (w:=E.drewN T) B2 n2 0 _,Bx.other (w:=E.drewN T) U np 0 _,Bx.other (w:=E.drewN T) V nm 0 _,Bx.other (w:=E.drewN T) H ny 0 _,aD.same (w:=E.drewN T) aI ((ah (E.drewN T) b3 0 _).block bm aI.lt (λe=>nb (by simpa using e.symm)))⟩
  clear M B2 U V H aI hHeld ba bd ar J
  gi_upto_region 6 with fail
  rw[aW.out]
  generalize (E.drewN T).setCell ⟨b3,0,none⟩ (I ((t.r-1:Nat):Int))=w7 at *
  obtain⟨M,B2,U,V,H,ap⟩:=an.out
  have G:=oW a (t.sg a).by_ _ w7 U rfl (decide ((t.sg a).by_≠0)) rfl
  have p3:=U.c 3 jv
  have bg:Hid (¬((t.sg a).by_=0/\(t.sg a).job.isNone=true)->KeepsFrom wn.heap.size W w7/\jD (.slice ta zs.length A) W w7/\ip w w7 S yb n0 c s qv sb ov x zs b2 b3 bm ((m++[(⟨a,hp⟩:Pt (zs.map Prod.fst))]).map Subtype.val)):=λhno=>by
   have e1:(t.step c s.now a).b=t.b:=if_neg hno
   have e2:(t.step c s.now a).sg a=t.sg a:=by
    show (if a=a then t.put c s.now a else t.sg a)=_
    rw[if_pos rfl];exact if_neg hno
   refine aT.out w7 (aL.out.mono λk R=>by rcases R with h|h;exact .inl h;exact .inr (.inl h)) an.out.1 an.out.2.2.2.2.2 (by rw[e1];exact an.out.2.2.2.2.1) ?_
   rw[e2]
   have K:aM W w7 [gI,3]:=⟨aL.out.size,λk ty R hn=>aL.out.block k R.lt λe=>by
    rcases e with rfl|rfl
    ·exact hn (by rw[R.one HM.out.ty];simp)
    exact hn (by rw[R.one al.out.ty];simp)⟩
   exact⟨_,_,_,an.out.2.2.1,f.out.chs.keptT K (λ_ h=>h) (by decide) (by decide),f.out.job.keptT K (λ_ h=>h) (Nat.le_refl _) (by decide) (by decide),f.out.own⟩
  unfold ptr at G
  clear M B2 U V H ap
  by_cases hby:(t.sg a).by_=0
  ·rw[show decide ((t.sg a).by_≠0)=false by simpa using hby] at G
   cases ej:(t.sg a).job with
   |some j=>
    obtain⟨jb,jt,cm,rfl,-,-,-,-,-,-⟩:gJ W (aE S w) (s.top n0) jv (some j):=ej▸f.out.job
    have ag:=bg.out (λh=>by rw[ej] at h;cases h.2)
    have HF:=hd ag
    clear ag ej
    unfold ptr at p3
    gi_wp2_with (refine⟨trivial,?_⟩;gi_at_call 189;refine(dh _ _ G).mono ?_;rintro e w8 ⟨rfl,rfl⟩)
    exact HF.out
   |none=>
    have bL:jv=.pointer none:=by have:=f.out.job;rw[ej] at this;exact this
    subst bL
    have b5:m.length<8:=by rw[a8] at bz;omega
    have b6:t.b<=s.begun+m.length:=by
     have h1:=Bs.all_b c s.now (m.map Subtype.val) (bs0 c s zs)
     rw[Ht.out,List.length_map] at h1
     exact h1
    obtain⟨M,B2,U,V,H,ap⟩:=an.out
    have bW:=H.c 12 (I t.b)
    have fy:=H.fr 12
    have m0:=V.cell (i:=0) rfl
    have n2:yb≠b2:=λe=>by subst e;exact absurd (H.ty.one B2.ty) (by decide)
    have np:yb≠a:=λe=>by subst e;exact absurd (H.ty.one U.ty) (by decide)
    have nm:yb≠w.heap.size:=λe=>by rw[e] at H;exact absurd (H.ty.one V.ty) (by decide)
    have nb:yb≠bm:=λe=>by subst e;exact absurd (H.ty.one ap.ty) (by decide)
    have bD:yb≠b3:=λe=>by subst e;exact absurd (H.ty.one M.ty) (by decide)
    have aX:Hid ((t.b:Int)+1=((t.b+1:Nat):Int)):=by
     show _=_
     omega
    have aG:Hid (Bx (w7.setCell ⟨yb,12,none⟩ (I ((t.b+1:Nat):Int))) b3 3 #[I ((t.r-1:Nat):Int)]/\Bx (w7.setCell ⟨yb,12,none⟩ (I ((t.b+1:Nat):Int))) b2 132 #[.map (some bm)]/\Bx (w7.setCell ⟨yb,12,none⟩ (I ((t.b+1:Nat):Int))) a 240 (cz (.slice ca Z.length C) (t.sg a).fails (t.sg a).by_ (.pointer none))/\Bx (w7.setCell ⟨yb,12,none⟩ (I ((t.b+1:Nat):Int))) w.heap.size 130 #[Px yb]/\Bx (w7.setCell ⟨yb,12,none⟩ (I ((t.b+1:Nat):Int))) yb 201 (aA c x (t.b+1) s.now qv sb s.outs.length ov)/\aD (w7.setCell ⟨yb,12,none⟩ (I ((t.b+1:Nat):Int))) bm (x.n+32*m.length+4*(t.sg a).l.length) (aB t.g (t.sg a).l).1/\ai W (w7.setCell ⟨yb,12,none⟩ (I ((t.b+1:Nat):Int))) (λk=>k=bm\/k=b3\/k=yb\/k=a)):=
     ⟨Bx.other M bD 12 _,Bx.other B2 n2 12 _,Bx.other U np 12 _,Bx.other V nm 12 _,Bx.set H 12 _,ap.same ((ah w7 yb 12 _).block bm ap.lt (λe=>nb (by simpa using e.symm))),ai.set (aL.out.mono λk R=>by rcases R with h|h;exact .inl h;exact .inr (.inl h)) (.inl (.inr (.inr (.inl rfl))))⟩
    clear M B2 U V H ap
    gi_upto_region 8 with (refine⟨trivial,?_⟩;gi_at_call 189;refine(dh _ _ G).mono ?_;rintro e w9 ⟨rfl,rfl⟩)
    rw[aX.out]
    generalize bS:w9.setCell ⟨yb,12,none⟩ (I ((t.b+1:Nat):Int))=w8 at aG ⊢
    clear bS
    obtain⟨M,B2,U,V,H,aK,a4⟩:=aG.out
    have z1:=H.c 12 (I ((t.b+1:Nat):Int))
    have z2:=H.c 13 (I s.now)
    have z3:=H.c 5 (I c.deadline)
    have z4:=V.c 0 (Px yb)
    have z5:=B2.c 0 (.map (some bm))
    obtain⟨D8,ay,bn⟩:=aK
    have bQ:(t.sg a).l.length<=8:=by rw[ab.out.1];exact au.out
    have bo:=rB bm _ D8 _ w8.drew ay bn (by have:=HX.out;have:=a0.out;omega)
    have b7:=hc.2.2.2.2.2.1.2
    have ck:IntKind.i64.wrap ((s.now:Int)+(c.deadline:Int))=(s.now:Int)+(c.deadline:Int):=wrap_i64 (by omega) (by omega)
    have bb:Hid ((s.now:Int)+(c.deadline:Int)=((s.now+c.deadline:Nat):Int)):=by
     show _=_
     omega
    clear G p3 bW fy m0 ay bn M B2 U V H a4
    refine kT (λW'=>KeepsFrom wn.heap.size W W'/\jD (.slice ta zs.length A) W W'/\ip w W' S yb n0 c s qv sb ov x zs b2 b3 bm ((m++[(⟨a,hp⟩:Pt (zs.map Prod.fst))]).map Subtype.val)) (λ_ _ h=>h) ?_
    refine fp (S:=λw'=>w'.cell? ⟨w.heap.size,0,none⟩=some (Px yb)/\w'.cell? ⟨yb,12,none⟩=some (I ((t.b+1:Nat):Int))/\w'.cell? ⟨yb,13,none⟩=some (I s.now)/\w'.cell? ⟨yb,5,none⟩=some (I c.deadline)/\w'.cell? ⟨b2,0,none⟩=some (.map (some bm))) rfl rfl (λ⟨_,_,h⟩=>by cases h.1) ⟨z4,z1,z2,z3,z5⟩ (λhHeld=>?_)
    refine tk 0 ?_
    refine tk 1 ?_
    refine tk 2 ?_
    refine tk 3 ?_
    refine tk 4 ?_
    refine tk 5 ?_
    refine tk 6 ?_
    refine tk 7 ?_
    refine tk 8 ?_
    refine tk 9 ?_
    refine tk 10 ?_
    refine tk 11 ?_
    refine tk 12 ?_
    refine tk 13 ?_
    refine tk 14 ?_
    refine tk 15 ?_
    refine wpAnyH_ready (rs:=[16]) (by kernel_rfl) (by simp) ?_
    refine AllReadyH.cons rfl (λK O=>?_) AllReadyH.nil
    go_simp
    go_wp2_with (go_at_call 144;refine bo.mono ?_;rintro e d ⟨⟨N,fb,u,rfl,aw,bv,ac⟩,aa⟩)
    obtain⟨M,B2,U,V,H,aK,a4⟩:=aG.out
    have aj:∀k,k<w8.heap.size->d.heap[k]? =w8.heap[k]? :=λk R=>aa.block k R
    have C3:Bx d b3 3 #[I ((t.r-1:Nat):Int)]:=(aj _ M.lt).trans M
    have C2:Bx d b2 132 #[.map (some bm)]:=(aj _ B2.lt).trans B2
    have CP:Bx d a 240 (cz (.slice ca Z.length C) (t.sg a).fails (t.sg a).by_ (.pointer none)):=(aj _ U.lt).trans U
    have CM:Bx d w.heap.size 130 #[Px yb]:=(aj _ V.lt).trans V
    have CY:Bx d yb 201 (aA c x (t.b+1) s.now qv sb s.outs.length ov):=(aj _ H.lt).trans H
    have Q:aD d bm (x.n+32*m.length+4*(t.sg a).l.length) (aB t.g (t.sg a).l).1:=aK.same (aj _ aK.lt)
    have av:ai W d (λk=>k=bm\/k=b3\/k=yb\/k=a):=ai.trans a4 (ai.of_below (w:=w8) ⟨aa.os,aa.tape,aa.output,aa.size,aj⟩) λ_ h=>.inl h
    have aU:Sl d 80 2 (.slice (some ⟨fb,0,none⟩) N.length u) N.length (N.flatMap cF):=Sl.of_row ac
    have bu:w8.heap.size<=fb:=by
     rcases ac.2 with ⟨h,_⟩|⟨g',_,_,h,ax,_⟩
     ·cases h
     obtain⟨h1,_,_⟩:=Value.slice.inj h
     cases h1
     exact ax
    have cf:∀o,(d.alloc o).cell? ⟨a,3,none⟩=some (.pointer none):=λo=>(CP.mk o).cell (i:=3) rfl
    have cg:∀o,(d.alloc o).frozen? ⟨a,3,none⟩=false:=λo=>(CP.mk o).fr 3
    have Y:Hid (Bx d b3 3 #[I ((t.r-1:Nat):Int)]/\Bx d b2 132 #[.map (some bm)]/\Bx d a 240 (cz (.slice ca Z.length C) (t.sg a).fails (t.sg a).by_ (.pointer none))/\Bx d w.heap.size 130 #[Px yb]/\Bx d yb 201 (aA c x (t.b+1) s.now qv sb s.outs.length ov)/\aD d bm (x.n+32*m.length+4*(t.sg a).l.length) (aB t.g (t.sg a).l).1/\ai W d (λk=>k=bm\/k=b3\/k=yb\/k=a)):=⟨C3,C2,CP,CM,CY,Q,av⟩
    have ae:Hid (Sl d 80 2 (.slice (some ⟨fb,0,none⟩) N.length u) N.length (N.flatMap cF)/\w8.heap.size<=fb/\fE N (aB t.g (t.sg a).l).1/\N.length<=x.n+32*m.length+4*(t.sg a).l.length):=⟨aU,bu,aw,bv⟩
    refine O.out _ _ ⟨CM.cell (i:=0) rfl,CY.cell (i:=12) rfl,CY.cell (i:=13) rfl,CY.cell (i:=5) rfl,C2.cell (i:=0) rfl⟩ (λhHeld=>?_)
    clear O K C3 C2 CP CM CY Q av aU bu aw bv ac aa aj bo
    refine tk 17 ?_
    refine wpAnyH_ready (rs:=[18]) (by kernel_rfl) (by simp) ?_
    refine AllReadyH.cons rfl (λK O=>?_) AllReadyH.nil
    go_simp
    have X:Hid (Bx (d.alloc (.cells #[I ((t.b:Int)+1),I ((s.now:Int)+(c.deadline:Int)),.slice (some ⟨fb,0,none⟩) N.length u] 242)) b3 3 #[I ((t.r-1:Nat):Int)]/\Bx (d.alloc (.cells #[I ((t.b:Int)+1),I ((s.now:Int)+(c.deadline:Int)),.slice (some ⟨fb,0,none⟩) N.length u] 242)) b2 132 #[.map (some bm)]/\Bx (d.alloc (.cells #[I ((t.b:Int)+1),I ((s.now:Int)+(c.deadline:Int)),.slice (some ⟨fb,0,none⟩) N.length u] 242)) a 240 (cz (.slice ca Z.length C) (t.sg a).fails (t.sg a).by_ (.pointer none))/\Bx (d.alloc (.cells #[I ((t.b:Int)+1),I ((s.now:Int)+(c.deadline:Int)),.slice (some ⟨fb,0,none⟩) N.length u] 242)) w.heap.size 130 #[Px yb]/\Bx (d.alloc (.cells #[I ((t.b:Int)+1),I ((s.now:Int)+(c.deadline:Int)),.slice (some ⟨fb,0,none⟩) N.length u] 242)) yb 201 (aA c x (t.b+1) s.now qv sb s.outs.length ov)):=⟨Y.out.1.mk _,Y.out.2.1.mk _,Y.out.2.2.1.mk _,Y.out.2.2.2.1.mk _,Y.out.2.2.2.2.1.mk _⟩
    refine O.out _ _ ⟨X.out.2.2.2.1.cell (i:=0) rfl,X.out.2.2.2.2.cell (i:=12) rfl,X.out.2.2.2.2.cell (i:=13) rfl,X.out.2.2.2.2.cell (i:=5) rfl,X.out.2.1.cell (i:=0) rfl⟩ (λhHeld=>?_)
    clear O K
    refine tk 19 ?_
    refine tk 20 ?_
    refine wpAnyH_ready (rs:=[21]) (by kernel_rfl) (by simp) ?_
    refine AllReadyH.cons rfl (λK O=>?_) AllReadyH.nil
    go_simp
    have L:Hid (Bx ((d.alloc (.cells #[I ((t.b:Int)+1),I ((s.now:Int)+(c.deadline:Int)),.slice (some ⟨fb,0,none⟩) N.length u] 242)).setCell ⟨a,3,none⟩ (Px d.heap.size)) b3 3 #[I ((t.r-1:Nat):Int)]/\Bx ((d.alloc (.cells #[I ((t.b:Int)+1),I ((s.now:Int)+(c.deadline:Int)),.slice (some ⟨fb,0,none⟩) N.length u] 242)).setCell ⟨a,3,none⟩ (Px d.heap.size)) b2 132 #[.map (some bm)]/\Bx ((d.alloc (.cells #[I ((t.b:Int)+1),I ((s.now:Int)+(c.deadline:Int)),.slice (some ⟨fb,0,none⟩) N.length u] 242)).setCell ⟨a,3,none⟩ (Px d.heap.size)) a 240 (cz (.slice ca Z.length C) (t.sg a).fails (t.sg a).by_ (Px d.heap.size))/\Bx ((d.alloc (.cells #[I ((t.b:Int)+1),I ((s.now:Int)+(c.deadline:Int)),.slice (some ⟨fb,0,none⟩) N.length u] 242)).setCell ⟨a,3,none⟩ (Px d.heap.size)) w.heap.size 130 #[Px yb]/\Bx ((d.alloc (.cells #[I ((t.b:Int)+1),I ((s.now:Int)+(c.deadline:Int)),.slice (some ⟨fb,0,none⟩) N.length u] 242)).setCell ⟨a,3,none⟩ (Px d.heap.size)) yb 201 (aA c x (t.b+1) s.now qv sb s.outs.length ov)):=by
     obtain⟨h1,h2,h3,h4,h5⟩:=X.out
     exact⟨Bx.other h1 (λe=>by subst e;exact absurd (h1.ty.one h3.ty) (by decide)) 3 _,Bx.other h2 (λe=>by subst e;exact absurd (h2.ty.one h3.ty) (by decide)) 3 _,Bx.set h3 3 _,Bx.other h4 (λe=>by rw[e] at h3;exact absurd (h4.ty.one h3.ty) (by decide)) 3 _,Bx.other h5 (λe=>by subst e;exact absurd (h5.ty.one h3.ty) (by decide)) 3 _⟩
    refine O.out _ _ ⟨L.out.2.2.2.1.cell (i:=0) rfl,L.out.2.2.2.2.cell (i:=12) rfl,L.out.2.2.2.2.cell (i:=13) rfl,L.out.2.2.2.2.cell (i:=5) rfl,L.out.2.1.cell (i:=0) rfl⟩ (λhHeld=>?_)
    clear O K
    refine wpAnyH_done (by kernel_rfl) ?_ _
    refine⟨rfl,?_⟩
    have e0:(t.sg a).by_=0/\(t.sg a).job.isNone=true:=⟨hby,by rw[ej];rfl⟩
    have e1:(t.step c s.now a).b=t.b+1:=if_pos e0
    have e2:(t.step c s.now a).sg a={t.sg a with job:=some ⟨t.b+1,s.now+c.deadline,(aB t.g (t.sg a).l).1⟩}:=by
     show (if a=a then t.put c s.now a else t.sg a)=_
     rw[if_pos rfl];exact if_pos e0
    obtain⟨-,-,D3,-,-,Q,av⟩:=Y.out
    have bV:a≠bm:=λe=>by subst e;exact absurd (D3.ty.one Q.ty) (by decide)
    have OA:ai W ((d.alloc (.cells #[I ((t.b:Int)+1),I ((s.now:Int)+(c.deadline:Int)),.slice (some ⟨fb,0,none⟩) N.length u] 242)).setCell ⟨a,3,none⟩ (Px d.heap.size)) (λk=>k=bm\/k=b3\/k=yb\/k=a):=ai.set (ai.trans av (ai.of_below (af d _)) λ_ h=>.inl h) (.inl (.inr (.inr (.inr rfl))))
    have bT:w.heap.size<=d.heap.size:=Nat.le_trans HB.out.only.size av.size
    refine aT.out _ OA L.out.1 ?_ (by rw[e1];exact L.out.2.2.2.2) ?_
    ·exact Q.same (((ah (d.alloc (.cells #[I ((t.b:Int)+1),I ((s.now:Int)+(c.deadline:Int)),.slice (some ⟨fb,0,none⟩) N.length u] 242)) a 3 _).block bm (Nat.lt_of_lt_of_le Q.lt (by simp)) (λe=>bV (by simpa using e.symm))).trans ((af d _).block bm Q.lt))
    rw[e2]
    have bJ:aM W ((d.alloc (.cells #[I ((t.b:Int)+1),I ((s.now:Int)+(c.deadline:Int)),.slice (some ⟨fb,0,none⟩) N.length u] 242)).setCell ⟨a,3,none⟩ (Px d.heap.size)) [gI,3,201,240]:=⟨OA.size,λk ty R hn=>OA.block k R.lt λe=>by
     rcases e with rfl|rfl|rfl|rfl
     ·exact hn (by rw[R.one HM.out.ty];simp)
     ·exact hn (by rw[R.one al.out.ty];simp)
     ·exact hn (by rw[R.one HB.out.yard.ty];simp)
     exact hn (by rw[R.one f.out.box.ty];simp)⟩
    refine⟨.slice ca Z.length C,Px d.heap.size,Z,L.out.2.2.1,f.out.chs.keptT bJ (λ_ h=>h) (by decide) (by decide),⟨d.heap.size,.slice (some ⟨fb,0,none⟩) N.length u,N,rfl,?_,?_,ae.out.2.2.1,?_,.inr bT,λg' ax=>?_⟩,f.out.own⟩
    ·have:=Bx.other (Bx.new d #[I ((t.b:Int)+1),I ((s.now:Int)+(c.deadline:Int)),.slice (some ⟨fb,0,none⟩) N.length u] 242) (c:=a) (Nat.ne_of_lt D3.lt) 3 (Px d.heap.size)
     rw[aX.out,bb.out] at this
     rw[aX.out,bb.out]
     exact this
    ·exact(ae.out.1.mk _).grown (ah _ a 3 _) (λg' ax e=>by
      have h1:=ae.out.1.ty ax
      have:a=g':=by simpa using e
      subst this
      exact absurd (D3.ty.one h1) (by decide))
    ·have:=ae.out.2.2.2
     have:=HX.out
     have:=a0.out
     show N.length<=n0+4*s.ids.length+256
     omega
    have:fb=g':=by simpa[Value.ownBlock] using ax
    subst this
    have h1:=ae.out.2.1
    have h2:=aG.out.2.2.2.2.2.2.size
    exact .inr (by have:=HB.out.only.size;omega)
  rw[show decide ((t.sg a).by_≠0)=true by simpa using hby] at G
  have ag:=bg.out (λh=>hby h.1)
  have HF:=hd ag
  clear ag
  gi_wp2_with (refine⟨trivial,?_⟩;gi_at_call 189;refine(dh _ _ G).mono ?_;rintro e w8 ⟨rfl,rfl⟩)
  exact HF.out
 case done=>
  rintro D ys W hD rfl hE O
  gi_wp2
  refine⟨by simp,.inl ⟨_,_,rfl,run_takeDeferred O,?_⟩⟩
  have ao:=(ip.own (ps:=zs.map Prod.fst) (w:=w) (S:=S) (yb:=yb) (n0:=n0) (c:=c) (s:=s) (qv:=qv) (sb:=sb) (ov:=ov) (x:=x) (zs:=zs) (b2:=b2) (b3:=b3) (bm:=bm) (B:=wn.heap.size) (by omega) (by omega) (by omega) (by omega) (by omega)).putObj (.deferred none) hE hD O rfl
  rw[List.attach_map_subtype_val] at ao
  have hZ:=HZ.out
  exact⟨_,results_none rfl _ _ _,rfl,⟨q,sb,qv,ov,x,(ao.1.done hZ (o5 hZ.rest.train.nd hZ.rest.train.snd _ [] (by simp) ao.2.2.2 (.inl rfl))).is,HX.out⟩,ao.1.only⟩
 rintro D cd m W hD ⟨k,R,rfl⟩ hE O
 have ao:=(jI.own (ps:=zs.map Prod.fst) (w:=w) (S:=S) (yb:=yb) (n0:=n0) (c:=c) (s:=s) (qv:=qv) (sb:=sb) (ov:=ov) (x:=x) (zs:=zs) (b2:=b2) (bm:=bm) (B:=wn.heap.size) (by omega) (by omega) (by omega) cd).putObj (.deferred none) hE hD O rfl
 obtain⟨rfl,l,p,bx,hB,hg,hn⟩:=ao
 rw[List.map_take,List.attach_map_subtype_val] at bx
 gi_wp2
 refine⟨by simp,.inl ⟨_,_,rfl,run_takeDeferred O,?_⟩⟩
 have hZ:=HZ.out
 exact⟨_,results_none rfl _ _ _,rfl,⟨q,sb,qv,ov,x,(hB.done hZ (o5 hZ.rest.train.nd hZ.rest.train.snd l (p::(zs.map Prod.fst).drop k) ((List.take_append_drop k (zs.map Prod.fst)).symm.trans (by rw[bx,List.append_assoc];rfl)) hg (.inr ⟨_,_,rfl,hn⟩))).is,HX.out⟩,hB.only⟩
end
end Go.Proofs.YtgamgomepdfgdaaGreat
