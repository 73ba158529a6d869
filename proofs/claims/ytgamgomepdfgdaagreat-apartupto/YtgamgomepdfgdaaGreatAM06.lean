import Derived.Test.YtgamgomepdfgdaaGreatAM05
set_option maxRecDepth 100000
set_option maxHeartbeats 8000000
namespace Go.Proofs.YtgamgomepdfgdaaGreat
open Go.RowKit Go.Proofs.Tryz
theorem Au (yb i n:Nat)(t:TypeId)(v:Value)(cs:Array Value)(x0 x1 x2:Int)(xs:List Value)(w:World)(hB:Bx w yb t cs)(hv:cs[i]? =some v)(hS:Sl w 99 3 v (n+1) (I x0::I x1::I x2::xs))(hne:v.ownBlock≠some yb):
 c_ 121 #[.pointer (some ⟨yb,i,none⟩)] w λe w'=>e=.returned (.tuple #[])/\∃v',Bx w' yb t (cs.setIfInBounds i v')/\Sl w' 99 3 v' n xs/\v'.ownBlock=v.ownBlock/\ai w w' (λk=>k=yb\/v.ownBlock=some k):=by
 obtain⟨g,a,b,rfl,u,q⟩:=hS.addr (by omega);have B:=hB.cell hv;have F:=hB.fr i;have C:w.cell? ⟨g,a+1,none⟩=some (I x1):=hS.cell (j:=1) rfl;have D:w.cell? ⟨g,a+2,none⟩=some (I x2):=hS.cell (j:=2) rfl;have J:=hS.fr (a+1);have K:=hS.fr (a+2);have H:=hB.lt;have G:g<w.heap.size:=hS.lt rfl;have s:((n:Int)+1==0)=false:=by simp;omega
 have f:g≠yb:=λe=>hne (by rw[e];rfl);have x:yb≠g:=f.symm;have r:g≠w.heap.size:=by omega
 have y:yb≠w.heap.size:=by omega
 have p:=hd hB;have h:=hd hS;clear hB hS;go_enter func121,ntmps121;go_upto_region 2 with fail;have E:∀o,(w.alloc o).cell? ⟨yb,i,none⟩=some (s_ g a (n+1) b):=λo=>(p.out.mk o).cell hv;have z:∀o,(w.alloc o).cell? ⟨g,a,none⟩=some (I x0):=λo=>(h.out.mk o).cell (j:=0) rfl;have A:∀o j,(w.alloc o).frozen? ⟨g,j,none⟩=false:=λo j=>(h.out.mk o).fr j
 have c:Hid (∀o' c',c'=b-1->o'=(if b-1=0 then a else a+3)->∀W,W=(((((w.setCell ⟨g,a,none⟩ (I 0)).setCell ⟨g,a+1,none⟩ (I 0)).setCell ⟨g,a+2,none⟩ (I 0)).setCell ⟨yb,i,none⟩ (s_ g o' n c')).alloc (.cells #[I 0,I 0,I 0] 99)).drew->∃v',Bx W yb t (cs.setIfInBounds i v')/\Sl W 99 3 v' n xs/\v'.ownBlock=some g/\ai w W (λk=>k=yb\/some g=some k)):=λo' c' hc ho W d=>by
  subst hc ho d;have d:=s6 (i:=i) p.out (Aq h.out (I 0) (I 0) (I 0)) (BZ _ _ _ _ _ _ _ _) f rfl (.cells #[I 0,I 0,I 0] 99);exact⟨_,d.1,d.2.1,rfl,d.2.2⟩
 by_cases hc1:b=1
 ·subst hc1;obtain rfl:n=0:=by omega
  go_region_law (fail);all_goals go_wp2_with fail
  all_goals
   refine be_ ⟨rfl,?_⟩;exact c.out a 0 rfl rfl _ rfl
 have m:Hid ((some ⟨g,a+3,none⟩:Option Addr)=some ⟨g,if b-1=0 then a else a+3,none⟩):=by
  have l:¬b-1=0:=by omega
  show _=_;rw[if_neg l]
 go_region_law (fail);all_goals go_wp2_with fail
 all_goals
  refine be_ ⟨rfl,?_⟩;refine c.out (a+3) (b-1) rfl (by have:=m.out;injection this with this;injection this) _ ?_;rfl
section
variable{r:Rc}
def Rc.ok (r:Rc):Prop:=(r.kind=1/\r.lane<256/\iA r.edits\/r.kind=2\/r.kind=3\/r.kind=5\/r.kind=6\/r.kind=7\/r.kind=4)/\r.num<9223372036854775808
theorem Rc.body1 (h:r.kind=1):r.body=eV r.lane r.edits r.edits.length++be 8 r.num:=by
 simp[Rc.body,h,eV]
theorem Rc.bodyN (h:r.kind=2\/r.kind=5\/r.kind=6):r.body=be 8 r.num:=by
 rcases h with h|h|h<;>simp[Rc.body,h]
theorem Rc.bodyB (h:r.kind=3\/r.kind=7):r.body=[]:=by
 rcases h with h|h<;>simp[Rc.body,h]
theorem Rc.body4 (h:r.kind=4):r.body=be 1 (cJ r.pass)++be 8 r.num:=by
 simp[Rc.body,h,cJ]
theorem Rc.bytes_eq (r:Rc):r.bytes=kJ r.kind r.body:=rfl
theorem Rc.kind_lt (h:r.ok):r.kind<256:=by
 rcases h.1 with h|h|h|h|h|h|h
 ·omega
 all_goals omega
theorem Rc.body_lt (h:r.ok):r.body.length<1000:=by
 rcases h.1 with ⟨h,_,a⟩|h|h|h|h|h|h
 ·have:=mt a r.lane r.edits.length;rw[Rc.body1 h,a_,aC];omega
 ·rw[Rc.bodyN (.inl h),aC];decide
 ·rw[Rc.bodyB (.inl h)];decide
 ·rw[Rc.bodyN (.inr (.inl h)),aC];decide
 ·rw[Rc.bodyN (.inr (.inr h)),aC];decide
 ·rw[Rc.bodyB (.inr h)];decide
 rw[Rc.body4 h,a_,aC,aC];decide
def iF (r:Rc):xL:=λB W l ev i p q=>(p=if r.kind=4 then r.pass else false)/\
 ((r.kind=1/\l=r.lane/\i=r.num/\q=0/\∃g,ev=.slice (some ⟨g,0,none⟩) r.edits.length r.edits.length/\B<=g/\du W g r.edits.length r.edits.length r.edits)\/
  (ev=Zn/\l=0/\i=(if r.kind=2 then r.num else 0)/\q=(if r.kind=4\/r.kind=5\/r.kind=6 then r.num else 0)/\r.kind≠1))
theorem iF.set (r:Rc):∀B W b o u l ev i p q,b<B->iF r B W l ev i p q->iF r B (W.setCell ⟨b,o,none⟩ u) l ev i p q:=by
 rintro B W b o u l ev i p q n ⟨a,⟨c,d,e,f,g,j,k,m⟩|h⟩
 ·exact⟨a,.inl ⟨c,d,e,f,g,j,k,m.grown (ah _ _ _ _) (by omega)⟩⟩
 exact⟨a,.inr h⟩
theorem xO (r:Rc)(h:r.ok):xM r.kind r.body (iF r):=by
 refine⟨λW u hV=>?_,iF.set r⟩
 have f:(r.kind=2\/r.kind=5\/r.kind=6)->c_ 166 #[I r.kind,u] W λe b=>(∃(l:Nat) (ea:Option Addr) (en ec i:Nat) (p:Bool) (q:Nat),e=.returned (.agg #[I r.kind,I l,.slice ea en ec,I i,.bool p,I q])/\iF r W.heap.size b l (.slice ea en ec) i p q)/\Bl W b:=λa=>by
  rw[Rc.bodyN a] at hV;refine(xJ r.kind r.num u W a h.2 hV).mono ?_;rintro e b ⟨rfl,d⟩;refine⟨⟨0,none,0,0,if r.kind=2 then r.num else 0,false,if r.kind=2 then 0 else r.num,?_,?_,.inr ⟨rfl,rfl,rfl,?_,by omega⟩⟩,d⟩
  ·by_cases h2:r.kind=2<;>simp[h2]
  ·rcases a with a|a|a<;>simp[a]
  rcases a with a|a|a<;>simp[a]
 have c:(r.kind=3\/r.kind=7)->c_ 166 #[I r.kind,u] W λe b=>(∃(l:Nat) (ea:Option Addr) (en ec i:Nat) (p:Bool) (q:Nat),e=.returned (.agg #[I r.kind,I l,.slice ea en ec,I i,.bool p,I q])/\iF r W.heap.size b l (.slice ea en ec) i p q)/\Bl W b:=λa=>by
  refine(vP r.kind u W a hV.form).mono ?_;rintro e b ⟨rfl,d⟩;exact⟨⟨0,none,0,0,0,false,0,rfl,by rcases a with a|a<;>simp[a],.inr ⟨rfl,rfl,by rcases a with a|a<;>simp[a],by rcases a with a|a<;>simp[a],by omega⟩⟩,d⟩
 rcases h.1 with ⟨a,m,n⟩|a|a|a|a|a|a
 ·rw[Rc.body1 a] at hV;rw[a];refine(qV r.lane r.num r.edits u W m h.2 n hV).mono ?_;rintro e b ⟨⟨g,rfl,k,j⟩,d⟩;exact⟨⟨r.lane,some ⟨g,0,none⟩,r.edits.length,r.edits.length,r.num,false,0,rfl,by simp[a],.inl ⟨a,rfl,rfl,rfl,g,rfl,k,j⟩⟩,d⟩
 ·exact f (.inl a)
 ·exact c (.inl a)
 ·exact f (.inr (.inl a))
 ·exact f (.inr (.inr a))
 ·exact c (.inr a)
 rw[Rc.body4 a] at hV;rw[a];refine(xN r.num r.pass u W h.2 hV).mono ?_;rintro e b ⟨rfl,d⟩;exact⟨⟨0,none,0,0,0,r.pass,r.num,rfl,by simp[a],.inr ⟨rfl,rfl,by simp[a],by simp[a],by omega⟩⟩,d⟩
def oM (r:Rc)(ea:Option Addr)(en ec:Nat):Value:=
 .agg #[I r.kind,I r.lane,.slice ea en ec,I (if r.kind=1\/r.kind=2 then r.num else 0:Nat),.bool (if r.kind=4 then r.pass else false),I (if r.kind=4\/r.kind=5\/r.kind=6 then r.num else 0:Nat)]
def jZ (w:World)(r:Rc)(ea:Option Addr)(en:Nat):Prop:=
 r.kind=1->∃b off,ea=some ⟨b,off,none⟩/\en=r.edits.length/\b<w.heap.size/\(∀i (h:i<r.edits.length),w.cell? ⟨b,off+i*3,none⟩=some (.string r.edits[i].1))/\(∀i (h:i<r.edits.length),w.cell? ⟨b,off+i*3+1,none⟩=some (.string r.edits[i].2.1))/\(∀i (h:i<r.edits.length),w.cell? ⟨b,off+i*3+2,none⟩=some (.string r.edits[i].2.2))
theorem dE (r:Rc)(h:r.ok)(ea:Option Addr)(en ec:Nat)(w:World)(hE:jZ w r ea en):
 c_ 112 #[oM r ea en ec] w λe w'=>∃v',e=.returned v'/\eW w w' v' r.bytes:=by
 refine vQ r.kind r.lane _ _ _ ea en ec r.body _ w (Rc.kind_lt h) (Rc.body_lt h) rfl ?_;intro w' hb;rcases h.1 with ⟨a,k,l⟩|a|a|a|a|a|a
 ·obtain⟨b,d,rfl,rfl,c,f,g,j⟩:=hE a;rw[a];exact pJ r.lane _ _ _ r.edits b d ec w' k l (h_ c hb.size) (λi hi=>ae hb (f i hi)) (λi hi=>ae hb (g i hi)) (λi hi=>ae hb (j i hi)) r.body (by rw[Rc.body1 a];simp)
 ·rw[Rc.bodyN (.inl a)];exact kH r.kind r.lane _ _ _ ea en ec w' (.inl a) r.num (by simp[a])
 ·rw[Rc.bodyB (.inl a)];exact mw r.kind r.lane _ _ _ ea en ec w' (.inl a)
 ·rw[Rc.bodyN (.inr (.inl a))];exact kH r.kind r.lane _ _ _ ea en ec w' (.inr (.inl a)) r.num (by simp[a])
 ·rw[Rc.bodyN (.inr (.inr a))];exact kH r.kind r.lane _ _ _ ea en ec w' (.inr (.inr a)) r.num (by simp[a])
 ·rw[Rc.bodyB (.inr a)];exact mw r.kind r.lane _ _ _ ea en ec w' (.inr a)
 have:=vR r.lane 0 r.num r.pass ea en ec w' r.body (Rc.body4 a);simpa[a] using this
theorem oN (r:Rc)(h:r.ok)(ea:Option Addr)(en ec:Nat)(w:World)(hE:jZ w r ea en):
 c_ 132 #[Al r (.slice ea en ec)] w λe w'=>e=.returned (.string (bs r.bytes))/\Bl w w':=by
 have j:r.bytes=r.head++be 4 (bO r.head):=rfl;rw[j];unfold Al;rcases h.1 with ⟨a,k,l⟩|a|a|a|a|a|a
 ·obtain⟨b,d,rfl,rfl,c,f,g,i⟩:=hE a;have:=nZ r.lane r.num r.pass r.edits b d ec w h.2 k l c f g i r.body r.head (Rc.body1 a) (by rw[Rc.head,a]);rw[a];exact this
 ·exact jx r.kind r.lane r.num r.pass _ w (.inl a) h.2 r.head (by rw[Rc.head,Rc.bodyN (.inl a),aC])
 ·exact lz r.kind r.lane r.num r.pass _ w (.inl a) r.head (by rw[Rc.head,Rc.bodyB (.inl a),T_];rfl)
 ·exact jx r.kind r.lane r.num r.pass _ w (.inr (.inl a)) h.2 r.head (by rw[Rc.head,Rc.bodyN (.inr (.inl a)),aC])
 ·exact jx r.kind r.lane r.num r.pass _ w (.inr (.inr a)) h.2 r.head (by rw[Rc.head,Rc.bodyN (.inr (.inr a)),aC])
 ·exact lz r.kind r.lane r.num r.pass _ w (.inr a) r.head (by rw[Rc.head,Rc.bodyB (.inr a),T_];rfl)
 have:=td r.lane r.num r.pass (.slice ea en ec) w h.2 r.head (by rw[Rc.head,Rc.body4 a,a,a_,aC,aC]);rw[a];exact this
structure Cfg where
 lanes:Nat
 age:Nat
 batch:Nat
 window:Nat
 retries:Nat
 deadline:Nat
 queue:Nat
def Cfg.Ok (c:Cfg):Prop:=(1<=c.lanes/\c.lanes<=4)/\(1<=c.age/\c.age<=8)/\(1<=c.batch/\c.batch<=8)/\(1<=c.window/\c.window<=4)/\c.retries<=3/\(1<=c.deadline/\c.deadline<=100)/\(1<=c.queue/\c.queue<=16)
structure Ch where
 id:Nat
 lane:Nat
 passed:Nat
 ord:Nat
 edits:List Ed
def oc:Nat->List (Nat×Nat)->List Value
 |_,[]=>[]
 |k,o::l=>[I ((k:Int)+1),I o.1,I o.2]++oc (k+1) l
theorem j2:∀(k:Nat) (l:List (Nat×Nat))(o:Nat×Nat),oc k (l++[o])=oc k l++[I (((k+l.length:Nat):Int)+1),I o.1,I o.2]
 |k,[],o=>by simp[oc]
 |k,x::l,o=>by
  rw[List.cons_append,oc,j2 (k+1) l o,oc,A_,List.length_cons]
  have:k+1+l.length=k+(l.length+1):=by omega
  rw[this]
variable{age cap n off:Nat}{e:TypeId}{w:World}
abbrev Pw:=Ch×Value
def cP (age:Nat)(x:Pw):List Value:=[I x.1.id,I x.1.lane,I x.1.passed,I age,I x.1.ord,x.2]
theorem l8:(prog.info? 193).map (λi=>(i.zero,i.size,i.bytes))=some (some (.agg #[I 0,I 0,I 0,I 0,I 0,Zn]),6,64):=by kernel_rfl
theorem Sl.elems {g:Nat}{q:List Pw}(h:Sl w e 6 (s_ g off n cap) n (q.flatMap (cP age))){i:Nat}(hi:i<q.length):
 w.cell? ⟨g,off+i*6,none⟩=some (I q[i].1.id)/\w.cell? ⟨g,off+i*6+1,none⟩=some (I q[i].1.lane)/\w.cell? ⟨g,off+i*6+2,none⟩=some (I q[i].1.passed)/\w.cell? ⟨g,off+i*6+3,none⟩=some (I age)/\w.cell? ⟨g,off+i*6+4,none⟩=some (I q[i].1.ord)/\w.cell? ⟨g,off+i*6+5,none⟩=some q[i].2:=by
 have k:∀j (u:Value),j<6->(cP age q[i])[j]? =some u->w.cell? ⟨g,off+i*6+j,none⟩=some u:=λj u hj hu=>by
  have:=h.cell (j:=i*6+j) (u:=u) (by rw[aq (cP age) 6 (λ_=>rfl) q i j hi hj];exact hu);rw[J_];exact this
 exact⟨k 0 _ (by decide) rfl,k 1 _ (by decide) rfl,k 2 _ (by decide) rfl,k 3 _ (by decide) rfl,k 4 _ (by decide) rfl,k 5 _ (by decide) rfl⟩
def pM (id:Int)(q:List Pw)(r:Int):Prop:=(r=-1/\∀x∈q,(x.1.id:Int)≠id)\/∃k:Nat,r=k/\∃h:k<q.length,(q[k].1.id:Int)=id/\∀j (hj:j<k),((q[j]'(by omega)).1.id:Int)≠id
def uX (id:Nat)(q:List Pw)(r:Int):Prop:=(r=-1/\∀x∈q,x.1.id≠id)\/∃k:Nat,r=k/\∃h:k<q.length,q[k].1.id=id/\∀j (hj:j<k),(q[j]'(by omega)).1.id≠id
theorem xP (age bk:Nat)(id i l p o:Int)(ea:Option Addr)(en ec:Nat)(w:World)(hq:w.cell? ⟨bk,0,none⟩=some (I id))(hb:bk<w.heap.size):
 c_ 196 #[.agg #[I i,I l,I p,I age,I o,.slice ea en ec],Px bk] w λe w'=>e=.returned (.bool (i==id))/\Bl w w':=by
 go_enter func196,ntmps196;go_wp2;go_ret;exact⟨rfl,af _ _⟩
theorem lD (age id bk:Nat)(i l p o:Int)(ea:Option Addr)(en ec:Nat)(w:World)(hq:w.cell? ⟨bk,0,none⟩=some (I id))(hb:bk<w.heap.size):
 c_ 169 #[.agg #[I i,I l,I p,I age,I o,.slice ea en ec],Px bk] w λe w'=>e=.returned (.bool (i==(id:Int)))/\Bl w w':=by
 go_enter func169,ntmps169;go_wp2;go_ret;exact⟨rfl,af _ _⟩
theorem qX (q:List Pw)(age g off cap bk:Nat)(id:Int)(w:World)(hS:Sl w 193 6 (s_ g off q.length cap) q.length (q.flatMap (cP age)))(hsl:∀x∈q,bD x.2)(hq:w.cell? ⟨bk,0,none⟩=some (I id))(hn:q.length<=16):
 c_ 204 #[s_ g off q.length cap,.func (.func 196) #[] #[Px bk]] w λe w'=>(∃r:Int,e=.returned (I r)/\pM id q r)/\Bl w w':=by
 have t:Hid _:=hS;have l:=aP hq;clear hS;go_enter func204,ntmps204;go_wp2_with fail;go_loopw [8] (λi wr=>∃k:Nat,k<=q.length/\i=I k/\Bl w wr/\Hid (∀j (h:j<k) (h':j<q.length),(q[j].1.id:Int)≠id)) (λi _=>q.length-(intOf i).toNat)
 case atStart=>exact⟨0,k_ _,rfl,n_ _ _,λj h=>by omega⟩
 obtain⟨k,M,rfl,c,f⟩:=hrel;have b:=hd c;have C:=ae c hq;have B:=h_ l c.size;by_cases hlk:k<q.length
 ·obtain⟨G,H,J,K,L,v⟩:=(Sl.later t.out c).elems hlk;obtain⟨y,A,z,s⟩:=hsl _ (i_ hlk);have m:=xP age bk id q[k].1.id q[k].1.lane q[k].1.passed q[k].1.ord y A z wr C B;rw[s] at v;have o:Hid ((q[k].1.id:Int)=id->pM id q (k:Int)):=λh=>.inr ⟨k,rfl,hlk,h,λj d=>f.out j d (by omega)⟩
  have u:Hid ((q[k].1.id:Int)≠id->∀j (h:j<k+1) (h':j<q.length),(q[j].1.id:Int)≠id):=λh j d hj'=>by
   by_cases e:j=k
   ·subst e;exact h
   exact f.out j (by omega) hj'
  generalize q[k].1.id=p at *;generalize q[k].1.lane=D at *;generalize q[k].1.passed=E at *;generalize q[k].1.ord=F at *;clear s c f;by_cases hid:(p:Int)=id
  ·subst hid;go_wp2_with fail;go_fit m;rintro e w' ⟨rfl,a⟩;go_wp2_with fail;go_ret;exact⟨⟨k,rfl,by first|exact o.out rfl|exact o.out trivial⟩,b.out.trans (a.mono b.out.size)⟩
  have n:((p:Int)==id)=false:=by simpa using hid
  rw[n] at m;go_wp2_with fail;go_fit m;rintro e w' ⟨rfl,a⟩;go_wp2_with fail;exact⟨⟨k+1,hlk,by go_num,b.out.trans (a.mono b.out.size),u.out hid⟩,by simp[intOf];omega⟩
 go_wp2_with fail;go_ret;refine⟨⟨-1,rfl,.inl ⟨rfl,λx hx=>?_⟩⟩,b.out⟩;obtain⟨j,d,rfl⟩:=Q_.1 hx;exact f.out j (by omega) d
theorem mB (q:List Pw)(age id g off cap bk:Nat)(w:World)(hS:Sl w 193 6 (s_ g off q.length cap) q.length (q.flatMap (cP age)))(hsl:∀x∈q,bD x.2)(hq:w.cell? ⟨bk,0,none⟩=some (I id))(hn:q.length<=16):
 c_ 204 #[s_ g off q.length cap,.func (.func 169) #[] #[Px bk]] w λe w'=>(∃r:Int,e=.returned (I r)/\uX id q r)/\Bl w w':=by
 have t:Hid _:=hS;have l:=aP hq;clear hS;go_enter func204,ntmps204;go_wp2_with fail;go_loopw [8] (λi wr=>∃k:Nat,k<=q.length/\i=I k/\Bl w wr/\Hid (∀j (h:j<k) (h':j<q.length),q[j].1.id≠id)) (λi _=>q.length-(intOf i).toNat)
 case atStart=>exact⟨0,k_ _,rfl,n_ _ _,λj h=>by omega⟩
 obtain⟨k,M,rfl,c,f⟩:=hrel;have b:=hd c;have C:=ae c hq;have B:=h_ l c.size;by_cases hlk:k<q.length
 ·obtain⟨G,H,J,K,L,v⟩:=(Sl.later t.out c).elems hlk;obtain⟨y,A,z,s⟩:=hsl _ (i_ hlk);have m:=lD age id bk q[k].1.id q[k].1.lane q[k].1.passed q[k].1.ord y A z wr C B;rw[s] at v;have o:Hid (q[k].1.id=id->uX id q (k:Int)):=λh=>.inr ⟨k,rfl,hlk,h,λj d=>f.out j d (by omega)⟩
  have u:Hid (q[k].1.id≠id->∀j (h:j<k+1) (h':j<q.length),q[j].1.id≠id):=λh j d hj'=>by
   by_cases e:j=k
   ·subst e;exact h
   exact f.out j (by omega) hj'
  generalize q[k].1.id=p at *;generalize q[k].1.lane=D at *;generalize q[k].1.passed=E at *;generalize q[k].1.ord=F at *;clear s c f;by_cases hid:p=id
  ·subst hid;go_wp2_with fail;go_fit m;rintro e w' ⟨rfl,a⟩;go_wp2_with fail;go_ret;exact⟨⟨k,rfl,by first|exact o.out rfl|exact o.out trivial⟩,b.out.trans (a.mono b.out.size)⟩
  have n:((p:Int)==(id:Int))=false:=by simp;omega
  rw[n] at m;go_wp2_with fail;go_fit m;rintro e w' ⟨rfl,a⟩;go_wp2_with fail;exact⟨⟨k+1,hlk,by go_num,b.out.trans (a.mono b.out.size),u.out hid⟩,by simp[intOf];omega⟩
 go_wp2_with fail;go_ret;refine⟨⟨-1,rfl,.inl ⟨rfl,λx hx=>?_⟩⟩,b.out⟩;obtain⟨j,d,rfl⟩:=Q_.1 hx;exact f.out j (by omega) d
theorem xQ (f:Value)(a:Option Addr)(cap:Nat)(w:World):
 c_ 204 #[.slice a 0 cap,f] w λe w'=>e=.returned (I (-1))/\w'=w:=by
 go_enter func204,ntmps204;go_wp2;go_loop [8] (λi=>i=I 0) (λ_=>0)
 case atStart=>rfl
 subst hrel;go_wp2;go_ret;exact⟨rfl,rfl⟩
theorem vS (q:List Pw)(age bk:Nat)(id:Int)(v:Value)(w:World)(hS:Sl w 193 6 v q.length (q.flatMap (cP age)))(hsl:∀x∈q,bD x.2)(hq:w.cell? ⟨bk,0,none⟩=some (I id))(hn:q.length<=16):
 c_ 204 #[v,.func (.func 196) #[] #[Px bk]] w λe w'=>(∃r:Int,e=.returned (I r)/\pM id q r)/\Bl w w':=by
 by_cases h0:q.length=0
 ·obtain rfl:=I_ h0;obtain⟨a,b,rfl⟩:=hS.form;refine(xQ _ a b w).mono ?_;rintro e w' ⟨rfl,rfl⟩;exact⟨⟨-1,rfl,.inl ⟨rfl,by simp⟩⟩,n_ _ _⟩
 obtain⟨g,c,b,rfl,_⟩:=hS.addr (by omega);exact qX q age g c b bk id w hS hsl hq hn
theorem pN (q:List Pw)(age bk:Nat)(id:Int)(v:Value)(w:World)(hS:Sl w 193 6 v q.length (q.flatMap (cP age)))(hsl:∀x∈q,bD x.2)(hq:w.cell? ⟨bk,0,none⟩=some (I id))(hn:q.length<=16):
 c_ 195 #[v,.func (.func 196) #[] #[Px bk]] w λe w'=>cD e (∃x∈q,(x.1.id:Int)=id)/\Bl w w':=by
 have d:=vS q age bk id v w hS hsl hq hn;obtain⟨a,g,rfl⟩:=hS.form
 have c:Hid (∀r:Int,pM id q r->(0<=r↔∃x∈q,(x.1.id:Int)=id)):=λr b=>by
  rcases b with ⟨rfl,h⟩|⟨k,rfl,l,i,m⟩
  ·exact⟨λh=>by omega,λ⟨x,hx,he⟩=>absurd he (h x hx)⟩
  exact⟨λ_=>⟨q[k],i_ l,i⟩,λ_=>by omega⟩
 generalize (∃x∈q,(x.1.id:Int)=id)=p at c ⊢;clear hS hq;go_enter func195,ntmps195;go_wp2_with fail;go_fit d;rintro e w' ⟨⟨r,rfl,b⟩,j⟩;have f:=hd (c.out r b);clear b c d;go_wp2_with fail;go_ret;exact⟨⟨decide (0<=r),rfl,by rw[decide_eq_true_eq];exact f.out⟩,j⟩
theorem B9 (q:List Pw)(age yb:Nat)(id:Int)(v:Value)(cs:Array Value)(w:World)(hB:Bx w yb 201 cs)(h9:cs[9]? =some v)(hS:Sl w 193 6 v q.length (q.flatMap (cP age)))(hsl:∀x∈q,bD x.2)(hn:q.length<=16):
 c_ 158 #[Px yb,I id] w λe w'=>cD e (∃x∈q,(x.1.id:Int)=id)/\Bl w w':=by
 have b:=pN q age w.heap.size id v (w.alloc (.cells #[I id] 3)) (hS.mk _) hsl (by simp) hn;obtain⟨a,f,rfl⟩:=hS.form;have h:=(hB.mk (.cells #[I id] 3)).cell h9;generalize (∃x∈q,(x.1.id:Int)=id)=p at b ⊢;clear hS hB;go_enter func158,ntmps158;go_wp2_with fail;go_fit b;rintro e w' ⟨⟨r,rfl,c⟩,g⟩;have d:=hd c;clear c b;go_wp2_with fail;go_ret;exact⟨⟨r,rfl,d.out⟩,(af _ _).trans (g.mono (by simp))⟩
abbrev Cg:=Nat×List Ed
structure Jb where
 num:Nat
 til:Nat
 files:ByteArray->ByteArray
structure Sm where
 l:List Cg
 fails:Nat
 by_:Nat
 job:Option Jb
def Sm.new (l:List Cg):Sm:=⟨l,0,0,none⟩
def Sm.renew (x:Sm):Sm:=Sm.new x.l
structure Ts where
 ids:List Nat
 queue:List Ch
 outs:List (Nat×Nat)
 acked:Nat
 tip:ByteArray->ByteArray
 main:List (Nat×List Nat)
 segs:List Sm
 begun:Nat
 now:Nat
def Ts.start (g:ByteArray->ByteArray):Ts:=⟨[],[],[],0,g,[],[],0,0⟩
def dX (g:ByteArray->ByteArray)(es:List Ed):Bool:=es.all λe=>(g e.1).toList==e.2.1.toList
theorem i7 (g:ByteArray->ByteArray)(es:List Ed):dX g es=true↔∀e∈es,g e.1=e.2.1:=by
 unfold dX;rw[List.all_eq_true];exact forall_congr' λe=>imp_congr_right λ_=>aY _ _
def aB (g:ByteArray->ByteArray):List Cg->(ByteArray->ByteArray)×Nat
 |[]=>(g,0)
 |x::l=>if dX g x.2 then ((aB (ck g x.2) l).1,(aB (ck g x.2) l).2+1) else (g,0)
theorem dg:∀(l:List Cg) (g:ByteArray->ByteArray),(aB g l).2<=l.length
 |[],g=>b_ _
 |x::l,g=>by
  unfold aB
  split
  ·have:=dg l (ck g x.2)
   simpa using this
  simp
def after (g:ByteArray->ByteArray)(l:List Cg):ByteArray->ByteArray:=l.foldl (λg x=>ck g x.2) g
theorem mG (g:ByteArray->ByteArray)(l:List Cg)(x:Cg):after g (l++[x])=ck (after g l) x.2:=by simp[after]
theorem gt:∀(l:List Cg) (g:ByteArray->ByteArray) (x:Cg) (m:List Cg),(aB g l).2=l.length->dX (after g l) x.2=false->(aB g (l++x::m)).2=l.length
 |[],g,x,m,_,h=>by
  have h':dX g x.2=false:=h
  simp[aB,h']
 |y::l,g,x,m,h,hx=>by
  unfold aB at h ⊢
  rw[List.cons_append]
  by_cases hy:dX g y.2=true
  ·simp only[hy,if_true,List.length_cons,Nat.add_right_cancel_iff] at h ⊢
   exact gt l (ck g y.2) x m h hx
  simp[hy] at h
theorem fN:∀(l:List Cg) (g:ByteArray->ByteArray) (x:Cg),(aB g l).2=l.length->dX (after g l) x.2=true->(aB g (l++[x])).2=l.length+1
 |[],g,x,_,h=>by
  have h':dX g x.2=true:=h
  simp[aB,h']
 |y::l,g,x,h,hx=>by
  unfold aB at h ⊢
  rw[List.cons_append]
  by_cases hy:dX g y.2=true
  ·simp only[hy,if_true,List.length_cons,Nat.add_right_cancel_iff] at h ⊢
   exact fN l (ck g y.2) x h hx
  simp[hy] at h
theorem kM:∀(l:List Cg) (g:ByteArray->ByteArray),(aB g l).2=l.length->(aB g l).1=after g l
 |[],g,_=>rfl
 |y::l,g,h=>by
  unfold aB at h ⊢
  by_cases hy:dX g y.2=true
  ·simp only[hy,if_true,List.length_cons,Nat.add_right_cancel_iff] at h ⊢
   exact kM l (ck g y.2) h
  simp[hy] at h
def mH (age:Nat)(x:Ch):Nat:=x.lane-x.passed/age
def Ts.ranked (c:Cfg)(s:Ts):List Ch:=rkG (mH c.age) s.queue 4
def Ch.up (x:Ch):Ch:={x with passed:=x.passed+1}
def Ch.cg (x:Ch):Cg:=(x.id,x.edits)
def Ts.pick (c:Cfg)(s:Ts):Ts:=
 {s with segs:=[Sm.new (((s.ranked c).take c.batch).map Ch.cg),],queue:=(s.queue.filter λx=> !((s.ranked c).take c.batch).any λy=>y.id==x.id).map Ch.up}
def fA (l:List Cg):List Sm:=if l.isEmpty then [] else [Sm.new l]
def Ts.conflict (s:Ts)(f:Sm)(m:List Sm):Ts:={s with outs:=s.outs++(f.l.take 1).map λx=>(x.1,3),segs:=fA (f.l.drop 1)++m}
def Ts.split (s:Ts)(f:Sm)(k:Nat)(m:List Sm):Ts:={s with segs:=Sm.new (f.l.take k)::Sm.new (f.l.drop k)::m}
def Ts.land (s:Ts)(f:Sm)(m:List Sm):Ts:=
 {s with tip:=(aB s.tip f.l).1,outs:=s.outs++f.l.map λx=>(x.1,1),main:=s.main++[(f.by_,f.l.map Prod.fst)],segs:=m}
def Ts.blame (s:Ts)(f:Sm)(m:List Sm):Ts:=
 if 1<f.l.length then s.split f ((f.l.length+1)/2) (m.map Sm.renew)
 else {s with outs:=s.outs++(f.l.take 1).map λx=>(x.1,2),segs:=m.map Sm.renew}
def Ts.step (c:Cfg)(s:Ts):Option Ts:=
 match s.segs with
 |[]=>if s.queue.isEmpty then none else some (s.pick c)
 |f::m=>
  if (aB s.tip f.l).2=0 then some (s.conflict f m)
  else if (aB s.tip f.l).2<f.l.length then some (s.split f (aB s.tip f.l).2 m)
  else if f.by_≠0 then some (s.land f m)
  else if c.retries<f.fails then some (s.blame f m)
  else none
def Ts.run (c:Cfg):Nat->Ts->Ts
 |0,s=>s
 |n+1,s=>match s.step c with
  |none=>s
  |some s'=>s'.run c n
def bL (c:Cfg)(now:Nat):Nat->List Sm->(ByteArray->ByteArray)->Nat->List Sm×Nat
 |0,l,_,b=>(l,b)
 |_+1,[],_,b=>([],b)
 |r+1,x::l,g,b=>
  if (aB g x.l).2<x.l.length\/c.retries<x.fails then (x::l,b)
  else if x.by_=0/\x.job.isNone=true then
   ({x with job:=some ⟨b+1,now+c.deadline,(aB g x.l).1⟩}::(bL c now r l (aB g x.l).1 (b+1)).1,(bL c now r l (aB g x.l).1 (b+1)).2)
  else (x::(bL c now r l (aB g x.l).1 b).1,(bL c now r l (aB g x.l).1 b).2)
def Ts.begin (c:Cfg)(s:Ts):Ts:={s with segs:=(bL c s.now c.window s.segs s.tip s.begun).1,begun:=(bL c s.now c.window s.segs s.tip s.begun).2}
def az (l:List Sm):Nat:=(l.map λx=>x.l.length).sum
def Ts.mu (s:Ts):Nat:=3*s.queue.length+(s.segs.map λx=>2*x.l.length-1).sum
def Ts.pump (c:Cfg)(s:Ts):Ts:=(s.run c s.mu).begin c
def Sm.ends (x:Sm)(pass:Bool)(num:Nat):Sm:=if pass then {x with by_:=num,job:=none} else {x with fails:=x.fails+1,job:=none}
def Sm.runs (x:Sm)(num:Nat):Bool:=match x.job with|some j=>j.num==num|none=>false
def Ts.answer (s:Ts)(num:Nat)(pass:Bool):Ts:={s with segs:=s.segs.map λx=>if x.runs num then x.ends pass num else x}
def Sm.due (x:Sm)(now:Nat):Bool:=match x.job with|some j=>decide (j.til<=now)|none=>false
def Ts.tick (s:Ts)(n:Nat):Ts:={s with now:=s.now+n,segs:=s.segs.map λx=>if x.due (s.now+n) then x.ends false 0 else x}
def Ts.lose (s:Ts):Ts:={s with segs:=s.segs.map λx=>{x with job:=none}}
def Ts.does (c:Cfg)(s:Ts)(r:Rc):Ts:=
 if r.kind=1 then {s with ids:=s.ids++[r.num],queue:=s.queue++[⟨r.num,r.lane,0,s.ids.length,r.edits⟩]}
 else if r.kind=2 then {s with queue:=s.queue.filter λx=>x.id !=r.num,outs:=s.outs++[(r.num,4)]}
 else if r.kind=3 then s.pump c
 else if r.kind=4 then s.answer r.num r.pass
 else if r.kind=5 then s.tick r.num
 else if r.kind=6 then {s with acked:=s.acked+1}
 else s.lose
def Ts.all (c:Cfg)(g:ByteArray->ByteArray)(rs:List Rc):Ts:=rs.foldl (Ts.does c) (Ts.start g)
theorem Ts.all_snoc (c:Cfg)(g:ByteArray->ByteArray)(rs:List Rc)(r:Rc):Ts.all c g (rs++[r])=(Ts.all c g rs).does c r:=by simp[Ts.all]
structure Ts.Can (c:Cfg)(s:Ts)(r:Rc):Prop where
 kind:1<=r.kind/\r.kind<=7
 num:r.num<=9223372036854775807
 sub:r.kind=1->r.num<=1000000/\r.num∉s.ids/\s.queue.length<c.queue/\r.lane<c.lanes/\bT r.edits
 cancel:r.kind=2->∃x∈s.queue,x.id=r.num
 ans:r.kind=4->∃x∈s.segs,x.runs r.num=true
 tick:r.kind=5->1<=r.num/\r.num<=1000
 ack:r.kind=6->s.acked<s.outs.length
structure dv (c:Cfg)(begun now:Nat)(x:Sm):Prop where
 ne:x.l≠[]
 eds:∀y∈x.l,y.1<=1000000/\bT y.2
 fails:x.fails<=c.retries+1
 by_:x.by_<=begun
 job:∀j,x.job=some j->x.fails<=c.retries/\x.by_=0/\1<=j.num/\j.num<=begun/\j.til<=now+c.deadline
def df (x y:Sm):Prop:=∀j k,x.job=some j->y.job=some k->j.num≠k.num
structure Ts.Inv (c:Cfg)(s:Ts):Prop where
 len:s.queue.length<=c.queue
 ord:s.queue.Pairwise λx y=>x.ord<y.ord
 top:∀x∈s.queue,x.ord<s.ids.length/\x.lane<c.lanes/\x.passed+s.queue.length<=s.ids.length/\x.id<=1000000/\bT x.edits
 nd:(s.queue.map Ch.id).Nodup
 inn:∀x∈s.queue,x.id∈s.ids
 ack:s.acked<=s.outs.length
 cnt:s.outs.length+s.queue.length+az s.segs=s.ids.length
 main:s.main.length<=s.outs.length
 tr:az s.segs<=8
 sm:∀x∈s.segs,dv c s.begun s.now x
 jobs:s.segs.Pairwise df
theorem Ts.Inv.start (c:Cfg)(g:ByteArray->ByteArray):Ts.Inv c (Ts.start g):=
 ⟨by simp[Ts.start],by simp[Ts.start],by simp[Ts.start],by simp[Ts.start],by simp[Ts.start],by simp[Ts.start],by simp[Ts.start,az],by simp[Ts.start],by simp[Ts.start,az],by simp[Ts.start],by simp[Ts.start]⟩
variable{q:List Pw}{id j k:Nat}{P:Program}
theorem kK (w:World){ops:Array Oper}{rest:List Oper}{o:Oper}{a:Act}{Q:Exit->Act->World->Prop}(hgd:o.guard=none)(s:Operand)(t:TypeId)(ho:o.op=.call {callee:=.builtin .clear,args:=#[s],argTypes:=#[t]})(e:TypeId)(z:Value)(size:Nat)(ht:P.underlying t=some (.slice e))(hz:∀w,(zeroValue e).run P w=.ok z w)(hzs:z.cells.size=size)(h1:∀u∈z.cells.toList,u.oneCell'=true)(g o' m c:Nat)(hs:a.eval s=s_ g o' (m+1) c)(cur:Array Value)(hb:w.heap[g]? =some (.cells cur e (0,0)))(hfit:o'+(m+1)*size<=cur.size)(h:∀w' cur',w'.heap[g]? =some (.cells cur' e (0,0))->cur'.size=cur.size->(∀j,j<o'->cur'[j]? =cur[j]?)->w.grownBy w' (some g)->wpList P ops Q rest (a.put o.dst (.tuple #[])) w'):wpList P ops Q (o::rest) a w:=by
 refine wpList_plain hgd λK hK=>?_;have n:(Builtin.zeroCells z.cells (m+1)).toList.length=(m+1)*size:=by rw[Array.length_toList,size_zeroCells,hzs]
 have q:∀u∈(Builtin.zeroCells z.cells (m+1)).toList,u.oneCell'=true:=by
  intro u hu;simp only[Builtin.zeroCells,Array.mem_toList_iff] at hu;obtain⟨i,p,rfl⟩:=Array.mem_map.1 hu;have b:i<(m+1)*z.cells.size:=by simpa using p
  have r:0<z.cells.size:=by
   rcases Nat.eq_zero_or_pos z.cells.size with f|f
   ·rw[f] at b;simp at b
   exact f
  have l:=Nat.mod_lt i r;rw[getElem!_pos z.cells _ l];exact h1 _ (by simp)
 have d:=run_storeCells_at P g o' e (Builtin.zeroCells z.cells (m+1)).toList 0 cur w hb (by rw[n];simpa using hfit) q;simp only[Nat.add_zero] at d
 have v:(Builtin.clear_ #[t] o.type #[s_ g o' (m+1) c]).run P w=.ok (.tuple #[]) (w.setRow g (cur.toList.take o'++(Builtin.zeroCells z.cells (m+1)).toList++cur.toList.drop (o'+(Builtin.zeroCells z.cells (m+1)).toList.length)).toArray):=by
  simp[Builtin.clear_,run_underlying ht,hz,d]
 unfold Oper.wp execOp;simp only[ho,resolve,invoke,builtin,Sem.run_bind,Sem.run_pure,Result.andThen_ok,List.map_toArray,C_,List.map_nil,hs,v];refine hK _ _ (h _ _ (setRow_heap w g cur _ e _ hb) ?_ (λj hj=>?_) ⟨rfl,rfl,rfl,by simp,λk _ hk=>setRow_other w g k _ (λe=>hk (by rw[e]))⟩)
 ·simp only[List.size_toArray,a_,l_,G_,Array.length_toList];rw[Array.length_toList] at n;omega
 have:o'<=cur.toList.length:=by rw[Array.length_toList];omega
 rw[List.getElem?_toArray,A_,V_ (by rw[l_];omega),List.getElem?_take_of_lt hj];simp
theorem fk (w:World){ops:Array Oper}{rest:List Oper}{o:Oper}{a:Act}{Q:Exit->Act->World->Prop}(hgd:o.guard=none)(s:Operand)(t:TypeId)(ho:o.op=.call {callee:=.builtin .clear,args:=#[s],argTypes:=#[t]})(e:TypeId)(z:Value)(size:Nat)(ht:P.underlying t=some (.slice e))(hz:∀w,(zeroValue e).run P w=.ok z w)(hzs:z.cells.size=size)(h1:∀u∈z.cells.toList,u.oneCell'=true)(g o' m c:Nat)(hm:0<m)(hs:a.eval s=s_ g o' m c)(cur:Array Value)(hb:w.heap[g]? =some (.cells cur e (0,0)))(hfit:o'+m*size<=cur.size)(h:∀w' cur',w'.heap[g]? =some (.cells cur' e (0,0))->cur'.size=cur.size->(∀j,j<o'->cur'[j]? =cur[j]?)->w.grownBy w' (some g)->wpList P ops Q rest (a.put o.dst (.tuple #[])) w'):wpList P ops Q (o::rest) a w:=by
 obtain⟨k,rfl⟩:∃k,m=k+1:=⟨m-1,by omega⟩;exact kK w hgd s t ho e z size ht hz hzs h1 g o' k c hs cur hb hfit h
theorem oO (age:Nat)(x:Pw):∀(l:List Pw) (i:Nat),i<l.length->(l.set i x).flatMap (cP age)=((((((l.flatMap (cP age)).set (i*6) (I x.1.id)).set (i*6+1) (I x.1.lane)).set (i*6+2) (I x.1.passed)).set (i*6+3) (I age)).set (i*6+4) (I x.1.ord)).set (i*6+5) x.2
 |[],_,h=>by simp at h
 |y::l,0,_=>by simp[cP]
 |y::l,i+1,h=>by
  have ih:=oO age x l i (by simpa using h)
  have e:(i+1)*6=i*6+1+1+1+1+1+1:=by omega
  rw[List.set_cons_succ,F_,ih,e]
  simp[cP]
theorem Sl.put6 {g:Nat}(h:Sl w e 6 (s_ g off n cap) n (q.flatMap (cP age))){i:Nat}(hi:i<q.length)(x:Pw):
 Sl ((((((w.setCell ⟨g,off+i*6,none⟩ (I x.1.id)).setCell ⟨g,off+i*6+1,none⟩ (I x.1.lane)).setCell ⟨g,off+i*6+2,none⟩ (I x.1.passed)).setCell ⟨g,off+i*6+3,none⟩ (I age)).setCell ⟨g,off+i*6+4,none⟩ (I x.1.ord)).setCell ⟨g,off+i*6+5,none⟩ x.2) e 6 (s_ g off n cap) n ((q.set i x).flatMap (cP age)):=by
 rw[oO age x q i hi];have:=(((((h.set (i*6) (I x.1.id)).set (i*6+1) (I x.1.lane)).set (i*6+2) (I x.1.passed)).set (i*6+3) (I age)).set (i*6+4) (I x.1.ord)).set (i*6+5) x.2;simpa only[J_] using this
theorem Ca (w:World)(g a b c d e f:Nat)(x y z u v t:Value):w.grownBy ((((((w.setCell ⟨g,a,none⟩ x).setCell ⟨g,b,none⟩ y).setCell ⟨g,c,none⟩ z).setCell ⟨g,d,none⟩ u).setCell ⟨g,e,none⟩ v).setCell ⟨g,f,none⟩ t) (some g):=(((((ah w g a x).trans (ah _ g b y)).trans (ah _ g c z)).trans (ah _ g d u)).trans (ah _ g e v)).trans (ah _ g f t)
def woP (id:Nat)(q:List Pw):List Pw:=q.filter λx=>x.1.id !=id
theorem pO (h:k<q.length)(he:q[k].1.id=id):woP id (q.take (k+1))=woP id (q.take k):=by
 rw[g_ h,woP,woP,List.filter_append];simp[he]
theorem qY (h:k<q.length)(he:q[k].1.id≠id):woP id (q.take (k+1))=woP id (q.take k)++[q[k]]:=by
 rw[g_ h,woP,woP,List.filter_append];simp[he]
theorem uY (h:∀x∈q,x.1.id≠id):woP id q=q:=List.filter_eq_self.2 λx hx=>by simpa using h x hx
structure fM (id:Nat)(q:List Pw)(j:Nat)(R:List Pw):Prop where
 len:R.length=q.length
 kept:R.take (woP id (q.take j)).length=woP id (q.take j)
 rest:R.drop j=q.drop j
 less:(woP id (q.take j)).length<j
theorem fM.get {R:List Pw}(h:fM id q j R)(hj:j<q.length):R[j]'(by rw[h.len];exact hj)=q[j]:=by
 have a:(R.drop j)[0]'(by rw[h.rest];simp;omega)=(q.drop j)[0]'(by simp;omega):=by simp only[h.rest]
 simpa using a
theorem fM.miss {R:List Pw}(h:fM id q j R)(hj:j<q.length)(he:q[j].1.id≠id):fM id q (j+1) (R.set (woP id (q.take j)).length q[j]):=by
 have b:=h.less;have a:=h.len;have e:=qY hj he;refine⟨by rw[List.length_set];exact a,?_,?_,?_⟩
 ·rw[e,a_,List.length_singleton,g_ (by rw[List.length_set];omega),List.take_set_of_le (b_ _),h.kept,List.getElem_set_self]
 ·rw[List.drop_set_of_lt (by omega),<-List.drop_drop,h.rest,List.drop_drop]
 rw[e,a_,List.length_singleton];omega
theorem fM.hit {R:List Pw}(h:fM id q j R)(hj:j<q.length)(he:q[j].1.id=id):fM id q (j+1) R:=by
 have e:=pO hj he;have a:=h.less;refine⟨h.len,by rw[e];exact h.kept,by rw[<-List.drop_drop,h.rest,List.drop_drop],by rw[e];omega⟩
theorem fM.start (hk:k<q.length)(h1:q[k].1.id=id)(h2:∀j (hj:j<k),(q[j]'(by omega)).1.id≠id):fM id q (k+1) q/\(woP id (q.take (k+1))).length=k:=by
 have e:woP id (q.take (k+1))=q.take k:=by
  rw[pO hk h1];refine uY λx hx=>?_;obtain⟨j,hj,rfl⟩:=Q_.1 hx;rw[l_] at hj;rw[List.getElem_take];exact h2 j (by omega)
 have a:(q.take k).length=k:=by rw[l_];omega
 exact⟨⟨rfl,by rw[e,a],rfl,by rw[e,a];omega⟩,by rw[e,a]⟩
variable{c:Cfg}{b:Nat}{f:Sm}{s s':Ts}
theorem Ts.Inv.ranked (h:s.Inv c)(hc:c.Ok):(s.ranked c).Perm s.queue:=eX λx hx=>by
 have a:=(h.top x hx).2.1
 have b:=hc.1.2
 unfold mH
 have:x.lane-x.passed/c.age<=x.lane:=Nat.sub_le _ _
 omega
theorem vW {l:List Ch}(h:(l.map Ch.id).Nodup)(k:Nat):(l.filter λx=> !(l.take k).any λy=>y.id==x.id)=l.drop k:=by
 have e:∀p:Ch->Bool,l.filter p=(l.take k).filter p++(l.drop k).filter p:=λp=>by rw[<-List.filter_append,X_]
 rw[e]
 have b:((l.take k).filter λx=> !(l.take k).any λy=>y.id==x.id)=[]:=by
  rw[List.filter_eq_nil_iff];intro x hx;simp only[Bool.not_eq_true',Bool.not_eq_false,List.any_eq_true];exact⟨x,hx,by simp⟩
 have c:((l.drop k).filter λx=> !(l.take k).any λy=>y.id==x.id)=l.drop k:=by
  rw[List.filter_eq_self];intro x hx;rw[Bool.not_eq_true',List.any_eq_false];intro y hy;have a:((l.take k).map Ch.id++(l.drop k).map Ch.id).Nodup:=by rw[<-w_,X_];exact h
  have:=(List.nodup_append.1 a).2.2 y.id (x_ hy) x.id (x_ hx);simpa using this
 rw[b,c,List.nil_append]
theorem Ts.Inv.left (h:s.Inv c)(hc:c.Ok)(k:Nat):(s.queue.filter λx=> !((s.ranked c).take k).any λy=>y.id==x.id).Perm ((s.ranked c).drop k):=by
 have a:=h.ranked hc;have b:=(a.map Ch.id).nodup_iff.2 h.nd;have:=vW b k;exact(a.symm.filter _).trans (this▸List.Perm.refl _)
theorem aO (x:Sm)(l:List Sm):az (x::l)=x.l.length+az l:=by simp[az]
theorem cV (a b:List Sm):az (a++b)=az a+az b:=by simp[az]
theorem fO (l:List Sm):az (l.map Sm.renew)=az l:=by simp[az,Sm.renew,Sm.new,Function.comp_def]
def muS (l:List Sm):Nat:=(l.map λx=>2*x.l.length-1).sum
theorem fP (x:Sm)(l:List Sm):muS (x::l)=(2*x.l.length-1)+muS l:=by simp[muS]
theorem tj (a b:List Sm):muS (a++b)=muS a+muS b:=by simp[muS]
theorem oQ (l:List Sm):muS (l.map Sm.renew)=muS l:=by simp[muS,Sm.renew,Sm.new,Function.comp_def]
theorem Ts.mu_eq (s:Ts):s.mu=3*s.queue.length+muS s.segs:=rfl
theorem dv.new {l:List Cg}(h:l≠[])(he:∀y∈l,y.1<=1000000/\bT y.2):dv c b n (Sm.new l):=⟨h,he,k_ _,k_ _,λj hj=>by cases hj⟩
theorem dv.renew {x:Sm}(h:dv c b n x):dv c b n x.renew:=dv.new h.ne h.eds
theorem df.new_left {l:List Cg}{y:Sm}:df (Sm.new l) y:=λj k hj _=>by cases hj
theorem mI (m:List Sm):(m.map Sm.renew).Pairwise df:=by
 rw[List.pairwise_map];exact List.Pairwise.imp (fun {a b} (_:True)=>df.new_left) (List.pairwise_of_forall λ_ _=>trivial)
theorem vV {l:List Cg}{x:Sm}(h:x∈fA l):x=Sm.new l/\l≠[]:=by
 unfold fA at h;split at h
 ·simp at h
 rename_i hn;exact⟨by simpa using h,λe=>hn (by simp[e])⟩
theorem oR (l:List Cg):az (fA l)=l.length:=by
 unfold fA;split
 ·rename_i h;rw[List.isEmpty_iff.1 h];rfl
 simp[az,Sm.new]
theorem xT (l:List Cg):muS (fA l)=2*l.length-1:=by
 unfold fA;split
 ·rename_i h;rw[List.isEmpty_iff.1 h];rfl
 simp[muS,Sm.new]
theorem ti {l:List Cg}{m:List Sm}(h:m.Pairwise df):(fA l++m).Pairwise df:=by
 unfold fA;split
 ·simpa using h
 rw[List.singleton_append,List.pairwise_cons];exact⟨λ_ _=>df.new_left,h⟩
theorem Ts.Inv.pick (h:s.Inv c)(hc:c.Ok)(he:s.segs=[])(hq:s.queue≠[]):(s.pick c).Inv c/\(s.pick c).mu<s.mu:=by
 have j:=h.ranked hc;have p:=h.left hc c.batch;have d:=p.length_eq;rw[G_,j.length_eq] at d;have t:=hc.2.2.1;have k:=S_.2 hq;have g:(((s.ranked c).take c.batch).map Ch.cg).length=min c.batch s.queue.length:=by rw[d_,l_,j.length_eq]
 have b:=h.cnt;rw[he] at b;have f:az ([]:List Sm)=0:=rfl
 have a:(s.pick c).queue.length=s.queue.length-c.batch:=by
  show ((s.queue.filter _).map Ch.up).length=_;rw[d_,d]
 refine⟨⟨?_,?_,λx hx=>?_,?_,λx hx=>?_,h.ack,?_,h.main,?_,λx hx=>?_,?_⟩,?_⟩
 ·rw[a];have:=h.len;omega
 ·show ((s.queue.filter _).map Ch.up).Pairwise _;rw[List.pairwise_map];exact(h.ord.filter _).imp λh=>h
 ·rw[a];obtain⟨y,i,rfl⟩:=q_.1 hx;obtain⟨l,m,r,n,o⟩:=h.top y (Z_.1 i).1;refine⟨l,m,?_,n,o⟩;show y.passed+1+_<=s.ids.length;omega
 ·show (((s.queue.filter _).map Ch.up).map Ch.id).Nodup;rw[y_];exact List.Sublist.nodup (List.Sublist.map Ch.id (List.filter_sublist ..)) h.nd
 ·obtain⟨y,i,rfl⟩:=q_.1 hx;exact h.inn y (Z_.1 i).1
 ·rw[a];show s.outs.length+_+az [Sm.new _]=s.ids.length;rw[aO];show _+(((s.ranked c).take c.batch).map Ch.cg).length+az []=_;rw[g,f];rw[f] at b;omega
 ·show az [Sm.new _]<=8;rw[aO];show (((s.ranked c).take c.batch).map Ch.cg).length+az []<=_;rw[g,f];omega
 ·obtain rfl:=o_.1 hx;refine dv.new (λe=>?_) λy i=>?_
  ·rw[e] at g;simp only[List.length_nil] at g;omega
  obtain⟨z,q,rfl⟩:=q_.1 i;have:=h.top z (j.mem_iff.1 (List.mem_of_mem_take q));exact⟨this.2.2.2.1,this.2.2.2.2⟩
 ·show [Sm.new _].Pairwise df;simp
 rw[Ts.mu_eq,Ts.mu_eq,a,he];show _+muS [Sm.new _]<_;rw[fP];show _+((2*(((s.ranked c).take c.batch).map Ch.cg).length-1)+muS [])<_;rw[g];have:muS ([]:List Sm)=0:=rfl;omega
theorem Ts.Inv.conflict {m:List Sm}(h:s.Inv c)(e:s.segs=f::m):(s.conflict f m).Inv c/\(s.conflict f m).mu<s.mu:=by
 have k:=h.sm f (by rw[e];simp);obtain⟨y,l,d⟩:=List.exists_cons_of_ne_nil k.ne;have a:=h.cnt;have i:=h.tr;have n:=h.jobs;rw[e,aO,d] at a i;rw[e,List.pairwise_cons] at n;have g:(s.conflict f m).segs=fA l++m:=by show fA (f.l.drop 1)++m=_;rw[d];rfl
 have j:(s.conflict f m).outs=s.outs++[(y.1,3)]:=by show s.outs++(f.l.take 1).map _=_;rw[d];rfl
 simp only[List.length_cons] at a i;refine⟨⟨h.len,h.ord,h.top,h.nd,h.inn,?_,?_,?_,?_,λx b=>?_,?_⟩,?_⟩
 ·rw[j,a_];exact e_ h.ack (Nat.le_add_right _ _)
 ·rw[j,g,a_,cV,oR];show _+s.queue.length+_=s.ids.length;simp only[List.length_cons,List.length_nil];omega
 ·rw[j,a_];exact e_ h.main (Nat.le_add_right _ _)
 ·rw[g,cV,oR];omega
 ·rw[g] at b;rcases E_.1 b with b|b
  ·obtain⟨rfl,o⟩:=vV b;exact dv.new o λz hz=>k.eds z (by rw[d];simp[hz])
  exact h.sm x (by rw[e];simp[b])
 ·rw[g];exact ti n.2
 rw[Ts.mu_eq,Ts.mu_eq,g,e,tj,xT,fP,d];show 3*s.queue.length+_<_;simp only[List.length_cons];omega
theorem Ts.Inv.split {m m':List Sm}(h:s.Inv c)(e:s.segs=f::m)(h0:0<k)(hk:k<f.l.length)(ht:az m'=az m)(hm:muS m'=muS m)(hj':m'.Pairwise df)(hs':∀x∈m',dv c s.begun s.now x):
 (s.split f k m').Inv c/\(s.split f k m').mu<s.mu:=by
 have n:=h.sm f (by rw[e];simp);have b:=h.cnt;have g:=h.tr;rw[e,aO] at b g;have d:(s.split f k m').segs=Sm.new (f.l.take k)::Sm.new (f.l.drop k)::m':=rfl;have i:(Sm.new (f.l.take k)).l.length=k:=by show (f.l.take k).length=k;rw[l_];omega
 have j:(Sm.new (f.l.drop k)).l.length=f.l.length-k:=by show (f.l.drop k).length=_;rw[G_]
 refine⟨⟨h.len,h.ord,h.top,h.nd,h.inn,h.ack,?_,h.main,?_,λx a=>?_,?_⟩,?_⟩
 ·show s.outs.length+s.queue.length+_=s.ids.length;rw[d,aO,aO,i,j];omega
 ·rw[d,aO,aO,i,j];omega
 ·rw[d] at a;rcases R_.1 a with rfl|a
  ·refine dv.new (λe2=>?_) λz hz=>n.eds z (List.mem_of_mem_take hz);have:(f.l.take k).length=0:=by rw[e2];rfl
   rw[l_] at this;omega
  rcases R_.1 a with rfl|a
  ·refine dv.new (λe2=>?_) λz hz=>n.eds z (List.mem_of_mem_drop hz);have:(f.l.drop k).length=0:=by rw[e2];rfl
   rw[G_] at this;omega
  exact hs' x a
 ·rw[d,List.pairwise_cons,List.pairwise_cons];exact⟨λ_ _=>df.new_left,λ_ _=>df.new_left,hj'⟩
 rw[Ts.mu_eq,Ts.mu_eq,d,e,fP,fP,fP,i,j];show 3*s.queue.length+_<_;omega
theorem Ts.Inv.land {m:List Sm}(h:s.Inv c)(e:s.segs=f::m):(s.land f m).Inv c/\(s.land f m).mu<s.mu:=by
 have n:=h.sm f (by rw[e];simp);have k:=S_.2 n.ne;have a:=h.cnt;have i:=h.tr;have j:=h.jobs;rw[e,aO] at a i;rw[e,List.pairwise_cons] at j;have g:(s.land f m).segs=m:=rfl;have d:(s.land f m).outs.length=s.outs.length+f.l.length:=by show (s.outs++f.l.map _).length=_;simp
 have b:(s.land f m).main.length=s.main.length+1:=by show (s.main++[_]).length=_;simp
 refine⟨⟨h.len,h.ord,h.top,h.nd,h.inn,?_,?_,?_,?_,λx hx=>h.sm x (by rw[e];simp[show x∈m from hx]),j.2⟩,?_⟩
 ·rw[d];exact e_ h.ack (Nat.le_add_right _ _)
 ·rw[d,g];show _+s.queue.length+_=s.ids.length;omega
 ·rw[d,b];have:=h.main;omega
 ·rw[g];omega
 rw[Ts.mu_eq,Ts.mu_eq,g,e,fP];show 3*s.queue.length+_<_;omega
theorem Ts.Inv.blame {m:List Sm}(h:s.Inv c)(e:s.segs=f::m):(s.blame f m).Inv c/\(s.blame f m).mu<s.mu:=by
 have k:=h.sm f (by rw[e];simp);have i:=S_.2 k.ne
 have j:∀x∈m.map Sm.renew,dv c s.begun s.now x:=λx hx=>by
  obtain⟨y,n,rfl⟩:=q_.1 hx;exact(h.sm y (by rw[e];simp[n])).renew
 unfold Ts.blame;split
 ·rename_i h1;exact h.split e (by omega) (by omega) (fO m) (oQ m) (mI m) j
 rename_i h1;have b:f.l.length=1:=by omega
 have d:=h.cnt;have g:=h.tr;rw[e,aO,b] at d g;have a:(s.outs++(f.l.take 1).map λx:Cg=>(x.1,2)).length=s.outs.length+1:=by simp[b]
 refine⟨⟨h.len,h.ord,h.top,h.nd,h.inn,?_,?_,?_,?_,j,mI m⟩,?_⟩
 ·show _<=(s.outs++_).length;rw[a];exact e_ h.ack (Nat.le_add_right _ _)
 ·show (s.outs++_).length+s.queue.length+az (m.map Sm.renew)=s.ids.length;rw[a,fO];omega
 ·show _<=(s.outs++_).length;rw[a];exact e_ h.main (Nat.le_add_right _ _)
 ·show az (m.map Sm.renew)<=8;rw[fO];omega
 rw[Ts.mu_eq,Ts.mu_eq,e,fP];show 3*s.queue.length+muS (m.map Sm.renew)<_;rw[oQ];omega
theorem Ts.Inv.goes (h:s.Inv c)(hc:c.Ok)(hs:s.step c=some s'):s'.Inv c/\s'.mu<s.mu:=by
 unfold Ts.step at hs;split at hs
 ·rename_i e;split at hs
  ·cases hs
  rename_i hq;cases hs
  exact h.pick hc e (λe2=>hq (by simp[e2]))
 rename_i f m e;split at hs
 ·cases hs;exact h.conflict e
 split at hs
 ·rename_i h0 h1;cases hs
  refine h.split e (Nat.pos_of_ne_zero h0) h1 rfl rfl ?_ λx hx=>h.sm x (by rw[e];simp[hx]);have:=h.jobs;rw[e,List.pairwise_cons] at this;exact this.2
 split at hs
 ·cases hs;exact h.land e
 split at hs
 ·cases hs;exact h.blame e
 cases hs
theorem Ts.run_more (hc:c.Ok):∀(n:Nat) (s:Ts),s.Inv c->s.mu<=n->s.run c n=s.run c s.mu
 |0,s,_,hn=>by rw[show s.mu=0 by omega]
 |n+1,s,h,hn=>by
  cases hs:s.step c with
  |none=>
   have e1:s.run c (n+1)=s:=by unfold Ts.run;rw[hs]
   rw[e1]
   cases hm:s.mu with
   |zero=>rfl
   |succ k=>unfold Ts.run;rw[hs]
  |some s'=>
   obtain⟨a,d⟩:=h.goes hc hs
   have e1:s.run c (n+1)=s'.run c n:=by rw[Ts.run,hs]
   rw[e1,Ts.run_more hc n s' a (by omega)]
   cases hm:s.mu with
   |zero=>omega
   |succ k=>
    have b:s.run c (k+1)=s'.run c k:=by rw[Ts.run,hs]
    rw[b,Ts.run_more hc k s' a (by omega)]
theorem Ts.Inv.run_step (h:s.Inv c)(hc:c.Ok)(hs:s.step c=some s'):s.run c s.mu=s'.run c s'.mu:=by
 obtain⟨b,d⟩:=h.goes hc hs;cases hm:s.mu with
 |zero=>omega
 |succ k=>
  have a:s.run c (k+1)=s'.run c k:=by rw[Ts.run,hs]
  rw[a,Ts.run_more hc k s' b (by omega)]
theorem Ts.run_none (hs:s.step c=none)(n:Nat):s.run c n=s:=by
 cases n with
 |zero=>rfl
 |succ k=>rw[Ts.run,hs]
theorem Ts.Inv.run (hc:c.Ok):∀(n:Nat) {s:Ts},s.Inv c->(s.run c n).Inv c
 |0,s,h=>h
 |n+1,s,h=>by
  cases hs:s.step c with
  |none=>rw[Ts.run_none hs];exact h
  |some s'=>
   have e2:s.run c (n+1)=s'.run c n:=by rw[Ts.run,hs]
   rw[e2]
   exact Ts.Inv.run hc n (h.goes hc hs).1
variable{xs:List Value}{size:Nat}{w':World}
theorem dD (hb:Bl w w')(row:Option Nat):w.grownBy w' row:=⟨hb.os,hb.tape,hb.output,hb.size,λk hk _=>hb.block k hk⟩
theorem pP (w:World):(zeroValue 193).run prog w=.ok (.agg #[I 0,I 0,I 0,I 0,I 0,Zn]) w:=by kernel_rfl
theorem Sl.row {g:Nat}(h:Sl w e size (s_ g off n cap) n xs):∃cur,w.heap[g]? =some (.cells cur e (0,0))/\n<=cap/\cap<=maxLen/\off+cap*size<=cur.size/\∀j u,xs[j]? =some u->cur[off+j]? =some u:=by
 rcases h.2 with ⟨a,_⟩|⟨m,c,b,cur,a,k,d,f,i,l⟩
 ·cases a
 cases a
 exact⟨cur,k,d,f,i,l⟩
theorem te (q:List Pw)(age id g off cap bk:Nat)(w:World)(hS:Sl w 193 6 (s_ g off q.length cap) q.length (q.flatMap (cP age)))(hsl:∀x∈q,bD x.2)(hq:w.cell? ⟨bk,0,none⟩=some (I id))(hbg:bk≠g)(hn:q.length<=16):
 c_ 168 #[s_ g off q.length cap,.func (.func 169) #[] #[Px bk]] w λe w'=>e=.returned (s_ g off (woP id q).length cap)/\Sl w' 193 6 (s_ g off (woP id q).length cap) (woP id q).length ((woP id q).flatMap (cP age))/\w.grownBy w' (some g):=by
 have hI:=mB q age id g off cap bk w hS hsl hq hn;have HS:=hd hS;have ag:=hS.lt rfl;obtain⟨H,aj,ap,ad,ak⟩:=hS.row;clear aj ak H;clear hS;go_enter func168,ntmps168;go_wp2_with fail;go_fit hI;rintro e w1 ⟨⟨r,rfl,hr⟩,n⟩;have l:=hd n;have q1:=ae n hq;rcases hr with ⟨rfl,X⟩|⟨k,rfl,hk,U,V⟩
 ·have hw:=hd (uY X);clear n X hI;go_wp2_with fail;go_ret;rw[hw.out];exact⟨rfl,Sl.later HS.out l.out,dD l.out _⟩
 obtain⟨Q,S⟩:=fM.start hk U V;have v:=hd Q;have y:=hd S;have am:((k:Int)== -1)=false:=by simp
 clear Q S U V n hI;go_wp2_with fail;go_loopw [5,6,7] (λiv jv _ wr=>∃(i j:Nat) (R:List Pw),iv=I i/\jv=I j/\j<=q.length/\Hid (i=(woP id (q.take j)).length)/\i<j/\Hid (fM id q j R)/\Hid (Sl wr 193 6 (s_ g off q.length cap) q.length (R.flatMap (cP age)))/\Hid (w.grownBy wr (some g))) (λ_ j _ _=>q.length-(intOf j).toNat)
 case atStart=>exact⟨k,k+1,q,rfl,by go_num,hk,y.out.symm,by omega,v.out,Sl.later HS.out l.out,dD l.out _⟩
 obtain⟨i,j,R,rfl,rfl,hj,B,ao,s,f,M⟩:=hrel;have an:=h_ ag M.out.size;have qr:=K_ M.out hq (by simpa using hbg);have aa:=aP qr;by_cases hlj:j<q.length
 ·have ac:=s.out.len;have N:=s.out.get hlj;obtain⟨d0,d1,d2,d3,d4,Z⟩:=f.out.elems (i:=j) (by omega);obtain⟨y0,y1,y2,y3,y4,y5⟩:=f.out.elems (i:=i) (by omega);rw[N] at d0 d1 d2 d4 Z;obtain⟨J,L,K,he⟩:=hsl _ (i_ hlj);have O:=lD age id bk q[j].1.id q[j].1.lane q[j].1.passed q[j].1.ord J L K (wr.alloc (.cells #[I q[j].1.id,I q[j].1.lane,I q[j].1.passed,I age,I q[j].1.ord,.slice J L K] 193)) ((ae (af _ _) qr)) (h_ aa (by simp));have c:Hid (q[j].1.id=id->fM id q (j+1) R/\i=(woP id (q.take (j+1))).length):=λh=>⟨s.out.hit hlj h,by rw[pO hlj h];exact B.out⟩;have b:Hid (q[j].1.id≠id->fM id q (j+1) (R.set i q[j])/\i+1=(woP id (q.take (j+1))).length):=λh=>⟨by rw[B.out];exact s.out.miss hlj h,by rw[qY hlj h,a_,<-B.out];rfl⟩
  have p:Hid (∀W,Sl W 193 6 (s_ g off q.length cap) q.length (R.flatMap (cP age))->Sl ((((((W.setCell ⟨g,off+i*6,none⟩ (I q[j].1.id)).setCell ⟨g,off+i*6+1,none⟩ (I q[j].1.lane)).setCell ⟨g,off+i*6+2,none⟩ (I q[j].1.passed)).setCell ⟨g,off+i*6+3,none⟩ (I age)).setCell ⟨g,off+i*6+4,none⟩ (I q[j].1.ord)).setCell ⟨g,off+i*6+5,none⟩ (.slice J L K)) 193 6 (s_ g off q.length cap) q.length ((R.set i q[j]).flatMap (cP age))):=λW hW=>by
   have:=hW.put6 (i:=i) (by omega) q[j];rwa [he] at this
  rw[he] at Z;generalize q[j].1.id=D at *;generalize q[j].1.lane=a1 at *;generalize q[j].1.passed=a2 at *;generalize q[j].1.ord=a3 at *;have m:Hid (Sl (wr.alloc (.cells #[I D,I a1,I a2,I age,I a3,.slice J L K] 193)) 193 6 (s_ g off q.length cap) q.length (R.flatMap (cP age))):=f.out.mk _;have al:i<q.length:=by omega
  have ab:i<R.length:=by omega
  generalize R[i]=xi at *;clear he N B s v y;by_cases hid:D=id
  ·subst hid;go_wp2_with fail;go_fit O;rintro e C ⟨rfl,a⟩;have G2:=hd ((M.out.trans (v_ _ _ _)).trans (dD a _));have F:=hd (m.out.later a);have E:Hid (fM D q (j+1) R/\i=(woP D (q.take (j+1))).length):=by first|exact c.out rfl|exact c.out trivial
   clear a O f m p c b d0 d1 d2 d3 d4 Z y0 y1 y2 y3 y4 y5;go_wp2_with fail;exact⟨⟨i,j+1,R,rfl,by go_num,hlj,E.out.2,by omega,E.out.1,F.out,G2.out⟩,by simp[intOf];omega⟩
  have ai:((D:Int)==(id:Int))=false:=by simp;omega
  rw[ai] at O;go_wp2_with fail;go_fit O;rintro e C ⟨rfl,a⟩;have G2:=hd ((M.out.trans (v_ _ _ _)).trans (dD a _));have F:=hd (m.out.later a);have E:=hd (b.out hid);have t0:C.cell? ⟨wr.heap.size,0,none⟩=some (I D):=ae a (by simp);have t1:C.cell? ⟨wr.heap.size,1,none⟩=some (I a1):=ae a (by simp);have t2:C.cell? ⟨wr.heap.size,2,none⟩=some (I a2):=ae a (by simp);have t3:C.cell? ⟨wr.heap.size,3,none⟩=some (I age):=ae a (by simp);have t4:C.cell? ⟨wr.heap.size,4,none⟩=some (I a3):=ae a (by simp);have t5:C.cell? ⟨wr.heap.size,5,none⟩=some (.slice J L K):=ae a (by simp);have fr:=λo=>Sl.fr F.out o;obtain⟨v0,v1,v2,v3,v4,v5⟩:=Sl.elems F.out (i:=i) ab;clear a O f m c b d0 d1 d2 d3 d4 Z y0 y1 y2 y3 y4 y5;generalize R[i]=xi at *;go_wp2_with fail;refine⟨⟨i+1,j+1,R.set i q[j],by go_num,by go_num,hlj,E.out.2,by omega,E.out.1,p.out _ F.out,G2.out.trans (Ca _ _ _ _ _ _ _ _ _ _ _ _ _ _)⟩,by simp[intOf];omega⟩
 obtain rfl:j=q.length:=by omega
 have T:Hid (i=(woP id q).length):=by
  have:=B.out;rw[W_] at this;exact this
 have ah:Hid (R.take i=woP id q):=by
  have h1:=s.out.kept;rw[<-B.out,W_] at h1;exact h1
 obtain⟨G,P,_,_,t,d⟩:=Sl.row f.out
 have z:Hid (off+i*6+(q.length-i)*6<=G.size):=by
  show _<=_;omega
 have HC:=hd d;have ac:=s.out.len;have HF:=hd t;have Y:0<q.length-i:=by omega
 clear B s d t v y;go_wp2_with (refine fk _ rfl _ _ rfl _ _ 6 underlying190 pP rfl (by simp[Value.cells,Value.oneCell']) g (off+i*6) (q.length-i) (cap-i) Y rfl G P z.out ?_;intro w3 cur3 h3 h4 h5 h6);go_ret
 have A:(R.flatMap (cP age)).take (i*6)=(woP id q).flatMap (cP age):=by
  rw[<-ah.out,<-X_ i R,r_,X_];rw[List.take_append_of_le_length (by rw[aR (cP age) 6 (λ_=>rfl),l_];omega),m_ (by rw[aR (cP age) 6 (λ_=>rfl),l_];omega)]
 rw[<-T.out];refine⟨rfl,⟨by rw[aR (cP age) 6 (λ_=>rfl),<-T.out],.inr ⟨g,off,cap,cur3,rfl,h3,by omega,ad,by rw[h4];exact HF.out,λx u hu=>?_⟩⟩,M.out.trans h6⟩;rw[<-A] at hu;have hx:=(N_.1 hu).1;rw[l_] at hx;rw[List.getElem?_take_of_lt (by omega)] at hu;rw[h5 _ (by omega)];exact HC.out x u hu
variable{g:ByteArray->ByteArray}{rs:List Rc}{n':Nat}
theorem dv.more {b':Nat}{x:Sm}(h:dv c b n x)(hb:b<=b'):dv c b' n x:=
 ⟨h.ne,h.eds,h.fails,e_ h.by_ hb,λj hj=>by
  obtain⟨a,d,e,f,g⟩:=h.job j hj
  exact⟨a,d,e,e_ f hb,g⟩⟩
structure Do (c:Cfg)(now:Nat)(l l':List Sm)(b b' r:Nat):Prop where
 same:l'.map Sm.l=l.map Sm.l
 le:b<=b'
 top:b'<=b+r
 ok:∀x∈l',dv c b' now x
 jobs:l'.Pairwise df
 old:∀x∈l',∀j,x.job=some j->(∃y∈l,∃k,y.job=some k/\k.num=j.num)\/b<j.num
theorem i8 {now:Nat}:∀(r:Nat) (l:List Sm) (g:ByteArray->ByteArray) (b:Nat),(∀x∈l,dv c b now x)->l.Pairwise df->Do c now l (bL c now r l g b).1 b (bL c now r l g b).2 r
 |0,l,g,b,h,hj=>by
  rw[bL]
  exact⟨rfl,b_ _,b_ _,h,hj,λx hx j e=>.inl ⟨x,hx,j,e,rfl⟩⟩
 |r+1,[],g,b,h,hj=>by
  rw[bL]
  exact⟨rfl,b_ _,by omega,h,hj,λx hx j e=>.inl ⟨x,hx,j,e,rfl⟩⟩
 |r+1,x::l,g,b,h,hj=>by
  have hx:=h x (by simp)
  have p:∀y∈l,dv c b now y:=λy a=>h y (by simp[a])
  have m:=List.pairwise_cons.1 hj
  rw[bL]
  split
  ·exact⟨rfl,b_ _,by omega,h,hj,λx hx j e=>.inl ⟨x,hx,j,e,rfl⟩⟩
  rename_i hno
  split
  ·rename_i hbe
   have R:=i8 r l (aB g x.l).1 (b+1) (λy a=>(p y a).more (by omega)) m.2
   have q:=R.le
   refine⟨by simp only[C_];rw[R.same],by have:=R.le;simp only;omega,by have:=R.top;simp only;omega,λy a=>?_,?_,λy a j e=>?_⟩
   ·rcases R_.1 a with rfl|a
    ·have s:x.fails<=c.retries:=by omega
     refine⟨hx.ne,hx.eds,hx.fails,e_ hx.by_ (by omega),λj e=>?_⟩
     cases e
     exact⟨s,hbe.1,by simp,q,b_ _⟩
    exact R.ok y a
   ·rw[List.pairwise_cons]
    refine⟨λy a j k ej ek=>?_,R.jobs⟩
    cases ej
    show b+1≠k.num
    rcases R.old y a k ek with ⟨z,n,i,f,o⟩|d
    ·have:=((p z n).job i f).2.2.2.1
     omega
    omega
   rcases R_.1 a with rfl|a
   ·cases e
    exact .inr (Nat.lt_succ_self b)
   rcases R.old y a j e with ⟨z,n,i,f,o⟩|d
   ·exact .inl ⟨z,by simp[n],i,f,o⟩
   exact .inr (by omega)
  have R:=i8 r l (aB g x.l).1 b p m.2
  refine⟨by simp only[C_];rw[R.same],R.le,by have:=R.top;simp only;omega,λy a=>?_,?_,λy a j e=>?_⟩
  ·rcases R_.1 a with rfl|a
   ·exact hx.more R.le
   exact R.ok y a
  ·rw[List.pairwise_cons]
   refine⟨λy a j k ej ek=>?_,R.jobs⟩
   rcases R.old y a k ek with ⟨z,n,i,f,o⟩|d
   ·have:=m.1 z n j i ej f
    omega
   have:=(hx.job j ej).2.2.2.1
   omega
  rcases R_.1 a with rfl|a
  ·exact .inl ⟨y,by simp,j,e,rfl⟩
  rcases R.old y a j e with ⟨z,n,i,f,o⟩|d
  ·exact .inl ⟨z,by simp[n],i,f,o⟩
  exact .inr d
theorem fG {l l':List Sm}(h:l'.map Sm.l=l.map Sm.l):az l'=az l:=by
 have e:∀k:List Sm,az k=((k.map Sm.l).map List.length).sum:=λk=>by simp[az,Function.comp_def]
 rw[e,e,h]
theorem Ts.Inv.begin (h:s.Inv c):(s.begin c).Inv c:=by
 have R:=i8 (c:=c) (now:=s.now) c.window s.segs s.tip s.begun h.sm h.jobs;refine⟨h.len,h.ord,h.top,h.nd,h.inn,h.ack,?_,h.main,?_,R.ok,R.jobs⟩
 ·show s.outs.length+s.queue.length+az (bL c s.now c.window s.segs s.tip s.begun).1=s.ids.length;rw[fG R.same];exact h.cnt
 show az (bL c s.now c.window s.segs s.tip s.begun).1<=8;rw[fG R.same];exact h.tr
theorem Ts.Inv.each (h:s.Inv c)(n:Nat)(f:Sm->Sm)(hl:∀x,(f x).l=x.l)(hj:∀x∈s.segs,(f x).job=none\/(f x).job=x.job)(hok:∀x∈s.segs,dv c s.begun n (f x)):({s with now:=n,segs:=s.segs.map f}:Ts).Inv c:=by
 have e:(s.segs.map f).map Sm.l=s.segs.map Sm.l:=by rw[y_];exact List.map_congr_left λx _=>hl x
 refine⟨h.len,h.ord,h.top,h.nd,h.inn,h.ack,?_,h.main,?_,λx hx=>?_,?_⟩
 ·show s.outs.length+s.queue.length+az (s.segs.map f)=s.ids.length;rw[fG e];exact h.cnt
 ·show az (s.segs.map f)<=8;rw[fG e];exact h.tr
 ·obtain⟨y,i,rfl⟩:=q_.1 hx;exact hok y i
 show (s.segs.map f).Pairwise df;rw[List.pairwise_map];refine List.Pairwise.imp_of_mem (fun {a b} ha hb hab=>?_) h.jobs;intro j k ej ek;rcases hj a ha with d|d
 ·rw[d] at ej;cases ej
 rcases hj b hb with g|g
 ·rw[g] at ek;cases ek
 exact hab j k (d▸ej) (g▸ek)
theorem Sm.ends_l (x:Sm)(p:Bool)(n:Nat):(x.ends p n).l=x.l:=by unfold Sm.ends;split<;>rfl
theorem Sm.ends_job (x:Sm)(p:Bool)(n:Nat):(x.ends p n).job=none:=by unfold Sm.ends;split<;>rfl
theorem Sm.runs_iff (x:Sm)(n:Nat):x.runs n=true↔∃j,x.job=some j/\j.num=n:=by
 unfold Sm.runs;split
 ·rename_i j e;simp[e]
 rename_i e;simp[e]
theorem Sm.due_iff (x:Sm)(n:Nat):x.due n=true↔∃j,x.job=some j/\j.til<=n:=by
 unfold Sm.due;split
 ·rename_i j e;simp[e]
 rename_i e;simp[e]
theorem dv.ends {x:Sm}{j:Jb}(h:dv c b n x)(hj:x.job=some j)(p:Bool)(k:Nat)(hk:p=true->k<=b):dv c b n' (x.ends p k):=by
 obtain⟨a,d,e,f,g⟩:=h.job j hj;unfold Sm.ends;split
 ·rename_i hp;exact⟨h.ne,h.eds,h.fails,hk hp,λj hj=>by cases hj⟩
 exact⟨h.ne,h.eds,Nat.succ_le_succ a,h.by_,λj hj=>by cases hj⟩
theorem dv.later {x:Sm}(h:dv c b n x)(hn:n<=n'):dv c b n' x:=
 ⟨h.ne,h.eds,h.fails,h.by_,λj hj=>by
  obtain⟨a,d,e,f,g⟩:=h.job j hj
  exact⟨a,d,e,f,by omega⟩⟩
theorem Ts.Inv.answer (h:s.Inv c)(n:Nat)(p:Bool):(s.answer n p).Inv c:=by
 refine h.each s.now (λx=>if x.runs n then x.ends p n else x) (λx=>?_) (λx hx=>?_) λx hx=>?_
 ·split
  ·exact Sm.ends_l ..
  rfl
 ·split
  ·exact .inl (Sm.ends_job ..)
  exact .inr rfl
 split
 ·rename_i hr;obtain⟨j,a,b⟩:=(Sm.runs_iff _ _).1 hr;exact(h.sm x hx).ends a p n λ_=>by have:=((h.sm x hx).job j a).2.2.2.1;omega
 exact h.sm x hx
theorem Ts.Inv.tick (h:s.Inv c)(n:Nat):(s.tick n).Inv c:=by
 refine h.each (s.now+n) (λx=>if x.due (s.now+n) then x.ends false 0 else x) (λx=>?_) (λx hx=>?_) λx hx=>?_
 ·split
  ·exact Sm.ends_l ..
  rfl
 ·split
  ·exact .inl (Sm.ends_job ..)
  exact .inr rfl
 split
 ·rename_i hr;obtain⟨j,a,b⟩:=(Sm.due_iff _ _).1 hr;exact(h.sm x hx).ends a false 0 λe=>by cases e
 exact(h.sm x hx).later (by omega)
theorem Ts.Inv.lose (h:s.Inv c):s.lose.Inv c:=
 h.each s.now (λx=>{x with job:=none}) (λx=>rfl) (λx hx=>.inl rfl) λx hx=>by
  have:=h.sm x hx
  exact⟨this.ne,this.eds,this.fails,this.by_,λj hj=>by cases hj⟩
theorem tm {l:List Ch}(h:(l.map Ch.id).Nodup){n:Nat}(hx:∃x∈l,x.id=n):(l.filter λx=>x.id !=n).length+1=l.length:=by
 induction l with
 |nil=>obtain⟨x,hx,_⟩:=hx;simp at hx
 |cons y l ih=>
  rw[C_,List.nodup_cons] at h;by_cases hy:y.id=n
  ·have:(l.filter λx=>x.id !=n)=l:=List.filter_eq_self.2 λx hx=>by
    have:x.id≠n:=λe=>h.1 (by rw[hy,<-e];exact x_ hx);simpa using this
   rw[List.filter_cons];simp[hy,this]
  obtain⟨x,hx,e⟩:=hx;rcases R_.1 hx with rfl|hx
  ·exact absurd e hy
  have:=ih h.2 ⟨x,hx,e⟩;rw[List.filter_cons];simp[hy,this]
theorem Ts.Inv.does (h:s.Inv c)(hc:c.Ok)(hr:s.Can c r):(s.does c r).Inv c:=by
 unfold Ts.does;split
 ·rename_i hk;obtain⟨l,m,q,n,o⟩:=hr.sub hk;have f:=h.cnt;refine⟨by simp;omega,?_,λx d=>?_,?_,λx d=>?_,h.ack,?_,h.main,h.tr,h.sm,h.jobs⟩
  ·show (s.queue++_).Pairwise _;rw[List.pairwise_append];refine⟨h.ord,by simp,λx d y hy=>?_⟩;obtain rfl:=o_.1 hy;exact(h.top x d).1
  ·simp only[a_,List.length_singleton];rcases E_.1 d with d|d
   ·obtain⟨k,g,p,i⟩:=h.top x d;exact⟨by omega,g,by omega,i⟩
   obtain rfl:=o_.1 d;exact⟨by simp,n,by simp only;omega,l,o⟩
  ·simp only[w_,C_,List.map_nil];rw[List.nodup_append];refine⟨h.nd,by simp,λa ha b hb=>?_⟩;obtain rfl:=o_.1 hb;obtain⟨x,d,rfl⟩:=q_.1 ha;exact λe=>m (e▸h.inn x d)
  ·simp only[E_,o_];rcases E_.1 d with d|d
   ·exact .inl (h.inn x d)
   obtain rfl:=o_.1 d;exact .inr rfl
  simp only[a_,List.length_singleton];omega
 split
 ·rename_i hk;have j:=tm h.nd (hr.cancel hk);have f:=h.cnt;refine⟨by have:=h.len;simp only;omega,h.ord.filter _,λx d=>?_,List.Sublist.nodup (List.Sublist.map Ch.id (List.filter_sublist ..)) h.nd,λx d=>h.inn x (Z_.1 d).1,?_,?_,?_,h.tr,h.sm,h.jobs⟩
  ·obtain⟨k,g,p,i⟩:=h.top x (Z_.1 d).1;exact⟨k,g,by simp only;omega,i⟩
  ·simp only[a_,List.length_singleton];have:=h.ack;omega
  ·simp only[a_,List.length_singleton];omega
  simp only[a_,List.length_singleton];have:=h.main;omega
 split
 ·exact(h.run hc _).begin
 split
 ·exact h.answer _ _
 split
 ·exact h.tick _
 split
 ·rename_i hk;exact⟨h.len,h.ord,h.top,h.nd,h.inn,hr.ack hk,h.cnt,h.main,h.tr,h.sm,h.jobs⟩
 exact h.lose
def eE (c:Cfg)(g:ByteArray->ByteArray)(rs:List Rc):Prop:=∀k (hk:k<rs.length),(Ts.all c g (rs.take k)).Can c rs[k]
theorem eE.nil:eE c g []:=λk hk=>by simp at hk
theorem eE.snoc (h:eE c g rs)(hr:(Ts.all c g rs).Can c r):eE c g (rs++[r]):=λk hk=>by
 by_cases h1:k<rs.length
 ·rw[List.take_append_of_le_length (by omega)]
  have:=h k h1
  rwa [List.getElem_append_left h1]
 obtain rfl:k=rs.length:=by rw[a_,List.length_singleton] at hk;omega
 rw[List.take_append_of_le_length (b_ _),W_,List.getElem_concat_length rfl]
 exact hr
theorem Ts.step_at (hk:k<rs.length):Ts.all c g (rs.take (k+1))=(Ts.all c g (rs.take k)).does c rs[k]:=by
 rw[g_ hk,Ts.all_snoc]
theorem eE.take (h:eE c g rs):∀k,eE c g (rs.take k):=λk i hi=>by
 have a:i<rs.length/\i<k:=by rw[l_] at hi;omega
 rw[List.take_take,U_ (by omega),List.getElem_take]
 exact h i a.1
structure Ts.Few (s:Ts)(n:Nat):Prop where
 ids:s.ids.length<=n
 begun:s.begun<=4*n
 now:s.now<=1000*n
theorem Ts.step_same (hs:s.step c=some s'):s'.ids=s.ids/\s'.begun=s.begun/\s'.now=s.now/\s'.acked=s.acked:=by
 unfold Ts.step at hs;split at hs
 ·split at hs
  ·cases hs
  cases hs;exact⟨rfl,rfl,rfl,rfl⟩
 split at hs
 ·cases hs;exact⟨rfl,rfl,rfl,rfl⟩
 split at hs
 ·cases hs;exact⟨rfl,rfl,rfl,rfl⟩
 split at hs
 ·cases hs;exact⟨rfl,rfl,rfl,rfl⟩
 split at hs
 ·cases hs
  unfold Ts.blame;split<;>exact⟨rfl,rfl,rfl,rfl⟩
 cases hs
theorem Ts.run_same:∀(n:Nat) (s:Ts),(s.run c n).ids=s.ids/\(s.run c n).begun=s.begun/\(s.run c n).now=s.now/\(s.run c n).acked=s.acked
 |0,s=>⟨rfl,rfl,rfl,rfl⟩
 |n+1,s=>by
  cases hs:s.step c with
  |none=>rw[Ts.run_none hs];exact⟨rfl,rfl,rfl,rfl⟩
  |some s'=>
   have e2:s.run c (n+1)=s'.run c n:=by rw[Ts.run,hs]
   obtain⟨a,b,d,e⟩:=Ts.run_same n s'
   obtain⟨f,g,h,i⟩:=Ts.step_same hs
   rw[e2]
   exact⟨a.trans f,b.trans g,d.trans h,e.trans i⟩
theorem Ts.Few.does (h:s.Few n)(hI:s.Inv c)(hc:c.Ok)(hr:s.Can c r):(s.does c r).Few (n+1):=by
 obtain⟨g,i,j⟩:=h;unfold Ts.does;split
 ·exact⟨by simp;omega,by simp only;omega,by simp only;omega⟩
 split
 ·exact⟨by simp only;omega,by simp only;omega,by simp only;omega⟩
 split
 ·obtain⟨b,d,e,_⟩:=Ts.run_same (c:=c) s.mu s;have a:=hI.run hc s.mu;have R:=i8 (c:=c) (now:=(s.run c s.mu).now) c.window (s.run c s.mu).segs (s.run c s.mu).tip (s.run c s.mu).begun a.sm a.jobs;have f:=R.top;have k:=hc.2.2.2.1.2;refine⟨?_,?_,?_⟩
  ·show (s.run c s.mu).ids.length<=_;rw[b];omega
  ·show (bL c _ c.window _ _ _).2<=_;rw[d] at f ⊢;omega
  show (s.run c s.mu).now<=_;rw[e];omega
 split
 ·exact⟨by show s.ids.length<=_;omega,by show s.begun<=_;omega,by show s.now<=_;omega⟩
 split
 ·rename_i hk;have:=(hr.tick hk).2;exact⟨by show s.ids.length<=_;omega,by show s.begun<=_;omega,by show s.now+r.num<=_;omega⟩
 split
 ·exact⟨by simp only;omega,by simp only;omega,by simp only;omega⟩
 exact⟨by show s.ids.length<=_;omega,by show s.begun<=_;omega,by show s.now<=_;omega⟩
theorem eE.inv (h:eE c g rs)(hc:c.Ok):(Ts.all c g rs).Inv c/\(Ts.all c g rs).Few rs.length:=by
 have a:∀k,k<=rs.length->(Ts.all c g (rs.take k)).Inv c/\(Ts.all c g (rs.take k)).Few k:=λk=>by
  induction k with
  |zero=>intro _;exact⟨Ts.Inv.start c g,by simp[Ts.all,Ts.start],by simp[Ts.all,Ts.start],by simp[Ts.all,Ts.start]⟩
  |succ k ih=>
   intro hk;rw[Ts.step_at (by omega)];obtain⟨b,d⟩:=ih (by omega);exact⟨b.does hc (h k (by omega)),d.does b hc (h k (by omega))⟩
 have:=a rs.length (b_ _);rwa [W_] at this
end
section
variable{cs:Array Value}{g:ByteArray->ByteArray}{c:Cfg}{zs:List (Nat×Sm)}{q:List Pw}{ts us:List TypeId}{xs xs':List Value}{N N' acked age b m mb n' n0 sb size' yb:Nat}{S T:Nat->Prop}{o:Obj}{s s':Ts}{e t:TypeId}{cv ov qv v v':Value}{w w' w1 w2:World}
def aD (w:World)(mb n:Nat)(g:ByteArray->ByteArray):Prop:=∃D:DataW Unit,w.ownsMap prog 9 bK mb n D/\cX D g
theorem aD.same {n:Nat}(h:aD w mb n g)(hs:w'.heap[mb]? =w.heap[mb]?):aD w' mb n g:=by
 obtain⟨D,⟨b,a,i,c,d,e⟩,f⟩:=h;exact⟨D,⟨b,a,hs.trans i,c,d,e⟩,f⟩
theorem aD.lt {n:Nat}(h:aD w mb n g):mb<w.heap.size:=by
 obtain⟨D,⟨c,a,b,_⟩,_⟩:=h;exact(j_.1 b).1
theorem aD.ne_sl {n:Nat}{size:Nat}(h:aD w mb n g)(hS:Sl w e size v m xs):v.ownBlock≠some mb:=λhv=>by
 obtain⟨D,⟨f,a,b,_⟩,_⟩:=h
 obtain⟨c,d⟩:=hS.typed hv
 rw[d] at b;cases b
theorem aD.ne_box {n:Nat}(h:aD w mb n g)(hB:Bx w b t cs):mb≠b:=λe=>by
 obtain⟨D,⟨d,a,c,_⟩,_⟩:=h
 subst e
 unfold Bx at hB
 rw[hB] at c;cases c
theorem Bx.later (h:Bx w b t cs)(hb:Bl w w'):Bx w' b t cs:=(hb.block b h.lt).trans h
theorem Bx.kept (h:Bx w b t cs){S:Nat->Prop}(hO:ai w w' S)(hn:¬S b):Bx w' b t cs:=(hO.block b h.lt hn).trans h
def aE (S:Nat->Prop)(w:World):Nat->Prop:=λk=>S k\/w.heap.size<=k
theorem aE.not {k:Nat}(h:¬S k)(hl:k<w.heap.size):¬aE S w k:=λe=>by
 rcases e with e|e
 ·exact h e
 omega
theorem aE.old (w:World):∀k,S k->aE S w k:=λ_ h=>.inl h
theorem aE.two (h:w.heap.size<=w1.heap.size):∀k,aE (aE S w) w1 k->aE S w k:=λk a=>by
 rcases a with a|a
 ·exact a
 exact .inr (e_ h a)
def gI:TypeId:=1000000
def cy (w:World)(k:Nat)(t:TypeId):Prop:=(∃cur,w.heap[k]? =some (.cells cur t (0,0)))\/(t=gI/\∃es clock,w.heap[k]? =some (.map es clock))
theorem cy.one {k:Nat}{t':TypeId}(h:cy w k t)(h':cy w k t'):t=t':=by
 rcases h with ⟨c,e⟩|⟨rfl,i,g,e⟩<;>rcases h' with ⟨f,a⟩|⟨rfl,d,b,a⟩<;>rw[e] at a
 ·injection a with a;injection a with _ h2 _
 ·cases a
 cases a
theorem cy.lt {k:Nat}(h:cy w k t):k<w.heap.size:=by
 rcases h with ⟨c,e⟩|⟨_,b,a,e⟩<;>exact(j_.1 e).1
theorem Bx.ty (h:Bx w b t cs):cy w b t:=.inl ⟨cs,h⟩
theorem Sl.ty {size n:Nat}(h:Sl w e size v n xs){g:Nat}(hg:v.ownBlock=some g):cy w g e:=.inl (h.typed hg)
theorem dR.ty {ids:List Nat}(h:dR w sb ids):cy w sb gI:=by
 obtain⟨D,⟨b,a,c,_⟩,_⟩:=h;exact .inr ⟨rfl,b,a,c⟩
theorem aD.ty {n:Nat}(h:aD w mb n g):cy w mb gI:=by
 obtain⟨D,⟨b,a,c,_⟩,_⟩:=h;exact .inr ⟨rfl,b,a,c⟩
def ak (w w':World)(S:Nat->Prop)(ts:List TypeId):Prop:=ai w w' λk=>S k/\∃t∈ts,cy w k t
theorem ak.only (h:ak w w' S ts):ai w w' S:=ai.mono h λ_ hk=>hk.1
theorem ak.size (h:ak w w' S ts):w.heap.size<=w'.heap.size:=ai.size h
theorem ak.mono (h:ak w w' S ts)(hS:∀k,S k->T k)(ht:∀t∈ts,t∈us):ak w w' T us:=ai.mono h λk ⟨h1,t,h2,h3⟩=>⟨hS k h1,t,ht t h2,h3⟩
theorem ak.keep (h:ak w w' S ts){k:Nat}{t:TypeId}(hk:cy w k t)(ht:t∉ts):w'.heap[k]? =w.heap[k]? :=
 ai.block h k hk.lt λ⟨_,_,h1,h2⟩=>ht (hk.one h2▸h1)
structure aM (w w':World)(ts:List TypeId):Prop where
 size:w.heap.size<=w'.heap.size
 same:∀k t,cy w k t->t∉ts->w'.heap[k]? =w.heap[k]?
theorem ak.k (h:ak w w' S ts):aM w w' ts:=⟨h.size,λ_ _ hk ht=>h.keep hk ht⟩
theorem aM.sl (h:aM w w' ts){e:TypeId}{size n:Nat}{v:Value}{xs:List Value}(hs:Sl w e size v n xs)(ht:e∉ts):Sl w' e size v n xs:=hs.kept λ_ hg=>h.same _ _ (hs.ty hg) ht
theorem aM.bx (h:aM w w' ts){b:Nat}{t:TypeId}{cs:Array Value}(hb:Bx w b t cs)(ht:t∉ts):Bx w' b t cs:=(h.same _ _ hb.ty ht).trans hb
theorem aM.sub (h:aM w w' ts){sb:Nat}{ids:List Nat}(hs:dR w sb ids)(ht:gI∉ts):dR w' sb ids:=hs.same (h.same _ _ hs.ty ht)
theorem aM.map (h:aM w w' ts){mb n:Nat}{g:ByteArray->ByteArray}(hm:aD w mb n g)(ht:gI∉ts):aD w' mb n g:=hm.same (h.same _ _ hm.ty ht)
theorem ak.sl (h:ak w w' S ts){e:TypeId}{size n:Nat}{v:Value}{xs:List Value}(hs:Sl w e size v n xs)(ht:e∉ts):Sl w' e size v n xs:=h.k.sl hs ht
theorem ak.bx (h:ak w w' S ts){b:Nat}{t:TypeId}{cs:Array Value}(hb:Bx w b t cs)(ht:t∉ts):Bx w' b t cs:=h.k.bx hb ht
theorem ak.sub (h:ak w w' S ts){sb:Nat}{ids:List Nat}(hs:dR w sb ids)(ht:gI∉ts):dR w' sb ids:=h.k.sub hs ht
theorem ak.map (h:ak w w' S ts){mb n:Nat}{g:ByteArray->ByteArray}(hm:aD w mb n g)(ht:gI∉ts):aD w' mb n g:=h.k.map hm ht
theorem ak.trans (h:ak w w1 S ts)(h2:ak w1 w2 T us)(hT:∀k,T k->aE S w k):ak w w2 S (ts++us):=by
 have c:∀k,k<w.heap.size->¬(S k/\∃t∈ts++us,cy w k t)->w2.heap[k]? =w.heap[k]? :=λk hk hn=>by
  have e:=ai.block h k hk λ⟨a,t,b,d⟩=>hn ⟨a,t,List.mem_append_left _ b,d⟩;refine(ai.block h2 k (h_ hk h.size) λ⟨a,t,b,d⟩=>hn ⟨?_,t,List.mem_append_right _ b,by unfold cy at d ⊢;rwa [e] at d⟩).trans e;rcases hT k a with x|x
  ·exact x
  omega
 exact⟨(ai.os h2).trans (ai.os h),(ai.tape h2).trans (ai.tape h),(ai.output h2).trans (ai.output h),e_ h.size h2.size,c⟩
theorem ak.below (h:Bl w w'):ak w w' S ts:=ai.of_below h
theorem ak.refl (w:World)(S:Nat->Prop)(ts:List TypeId):ak w w S ts:=ai.refl w _
theorem ak.from_new (h:ak (w.alloc o) w' S ts):ak w w' S ts:=(ak.below (ts:=[]) (af w o)).trans h (aE.old w)
theorem ak.mk {E:Nat->Prop}(h:ai w w' E)(hE:∀k,k<w.heap.size->E k->S k/\∃t∈ts,cy w k t):ak w w' S ts:=
 ⟨h.os,h.tape,h.output,h.size,λk hk hn=>h.block k hk λe=>hn (hE k hk e)⟩
abbrev Cw:=Cg×Value
def cC (y:Cw):List Value:=[I y.1.1,y.2]
def cI (n:Nat):Value:=I n
def ptr (p:Nat):Value:=Px p
def In (S:Nat->Prop)(v:Value):Prop:=∀g,v.ownBlock=some g->S g
theorem In.mono (h:In S v)(hST:∀k,S k->T k):In T v:=λg hg=>hST g (h g hg)
structure dY (w:World)(S:Nat->Prop)(cv:Value)(l:List Cg)(cl:List Cw):Prop where
 fst:cl.map Prod.fst=l
 row:Sl w 273 2 cv cl.length (cl.flatMap cC)
 own:In S cv
 eds:∀y∈cl,Sl w 49 3 y.2 y.1.2.length (y.1.2.flatMap cE)/\In S y.2
def gJ (w:World)(S:Nat->Prop)(N:Nat)(v:Value):Option Jb->Prop
 |none=>v=.pointer none
 |some j=>∃b tv fl,v=ptr b/\Bx w b 242 #[I j.num,I j.til,tv]/\Sl w 80 2 tv fl.length (fl.flatMap cF)/\fE fl j.files/\fl.length<=N/\S b/\In S tv
def cz (cv:Value)(fails by_:Nat)(jv:Value):Array Value:=#[cv,I fails,I by_,jv]
structure q7 (w:World)(S:Nat->Prop)(N p:Nat)(x:Sm)(cv jv:Value)(cl:List Cw):Prop where
 box:Bx w p 240 (cz cv x.fails x.by_ jv)
 chs:dY w S cv x.l cl
 job:gJ w S N jv x.job
 own:S p
def dt (w:World)(S:Nat->Prop)(N:Nat)(z:Nat×Sm):Prop:=∃cv jv cl,q7 w S N z.1 z.2 cv jv cl
structure ik (w:World)(S:Nat->Prop)(N:Nat)(tv:Value)(l:List Sm)(zs:List (Nat×Sm)):Prop where
 snd:zs.map Prod.snd=l
 row:Sl w 210 1 tv zs.length (zs.map λz=>ptr z.1)
 own:In S tv
 nd:(zs.map Prod.fst).Nodup
 segs:∀z∈zs,dt w S N z
abbrev Tp:=(Nat×List Nat)×Value
def cTp (y:Tp):List Value:=[I y.1.1,y.2]
structure jB (w:World)(S:Nat->Prop)(mv:Value)(l:List (Nat×List Nat))(tl:List Tp):Prop where
 fst:tl.map Prod.fst=l
 row:Sl w 110 2 mv tl.length (tl.flatMap cTp)
 own:In S mv
 ids:∀y∈tl,Sl w 3 1 y.2 y.1.2.length (y.1.2.map cI)/\In S y.2
structure QIs (w:World)(S:Nat->Prop)(age:Nat)(q:List Pw)(qv:Value):Prop where
 row:Sl w 193 6 qv q.length (q.flatMap (cP age))
 eds:∀y∈q,Sl w 49 3 y.2 y.1.edits.length (y.1.edits.flatMap cE)
 fq:In S qv
 fe:∀y∈q,In S y.2
structure OIs (w:World)(S:Nat->Prop)(outs:List (Nat×Nat))(acked:Nat)(ov:Value):Prop where
 row:Sl w 99 3 ov (outs.length-acked) (oc acked (outs.drop acked))
 own:In S ov
structure Xt where
 tip:Nat
 mv:Value
 tv:Value
 n:Nat
def aA (c:Cfg)(x:Xt)(begun now:Nat)(qv:Value)(sb n:Nat)(ov:Value):Array Value:=
 #[I c.lanes,I c.age,I c.batch,I c.window,I c.retries,I c.deadline,I c.queue,.map (some x.tip),x.mv,qv,.map (some sb),x.tv,I begun,I now,I n,ov]
def Ts.top (n0:Nat)(s:Ts):Nat:=n0+4*s.ids.length+256
structure ij (w:World)(S:Nat->Prop)(mb n0:Nat)(s:Ts)(x:Xt)(tl:List Tp)(zs:List (Nat×Sm)):Prop where
 nm:¬S mb
 ml:mb<w.heap.size
 tip:x.tip=mb\/S x.tip
 map:aD w x.tip x.n s.tip
 main:jB w S x.mv s.main tl
 train:ik w S (s.top n0) x.tv s.segs zs
def Ce (w:World)(S:Nat->Prop)(mb n0:Nat)(s:Ts)(x:Xt):Prop:=∃tl zs,ij w S mb n0 s x tl zs
theorem dY.kept {l:List Cg}{cl:List Cw}(h:dY w S cv l cl)(hk:∀k,k<w.heap.size->S k->w'.heap[k]? =w.heap[k]?)(hST:∀k,S k->T k):dY w' T cv l cl:=
 ⟨h.fst,h.row.kept λg hg=>hk g (h.row.lt hg) (h.own g hg),h.own.mono hST,λy hy=>⟨(h.eds y hy).1.kept λg hg=>hk g ((h.eds y hy).1.lt hg) ((h.eds y hy).2 g hg),(h.eds y hy).2.mono hST⟩⟩
theorem gJ.kept {j:Option Jb}(h:gJ w S N v j)(hk:∀k,k<w.heap.size->S k->w'.heap[k]? =w.heap[k]?)(hST:∀k,S k->T k)(hN:N<=N'):gJ w' T N' v j:=by
 cases j with
 |none=>exact h
 |some j=>
  obtain⟨b,n,i,e,d,f,m,l,a,c⟩:=h;exact⟨b,n,i,e,(hk _ d.lt a).trans d,f.kept λg hg=>hk g (f.lt hg) (c g hg),m,e_ l hN,hST _ a,c.mono hST⟩
theorem dt.kept {z:Nat×Sm}(h:dt w S N z)(hk:∀k,k<w.heap.size->S k->w'.heap[k]? =w.heap[k]?)(hST:∀k,S k->T k)(hN:N<=N'):dt w' T N' z:=by
 obtain⟨b,c,a,h⟩:=h;exact⟨b,c,a,(hk _ h.box.lt h.own).trans h.box,h.chs.kept hk hST,h.job.kept hk hST hN,hST _ h.own⟩
theorem ik.kept {tv:Value}{l:List Sm}(h:ik w S N tv l zs)(hk:∀k,k<w.heap.size->S k->w'.heap[k]? =w.heap[k]?)(hST:∀k,S k->T k)(hN:N<=N'):ik w' T N' tv l zs:=
 ⟨h.snd,h.row.kept λg hg=>hk g (h.row.lt hg) (h.own g hg),h.own.mono hST,h.nd,λz hz=>(h.segs z hz).kept hk hST hN⟩
theorem jB.kept {mv:Value}{l:List (Nat×List Nat)}{tl:List Tp}(h:jB w S mv l tl)(hk:∀k,k<w.heap.size->S k->w'.heap[k]? =w.heap[k]?)(hST:∀k,S k->T k):jB w' T mv l tl:=
 ⟨h.fst,h.row.kept λg hg=>hk g (h.row.lt hg) (h.own g hg),h.own.mono hST,λy hy=>⟨(h.ids y hy).1.kept λg hg=>hk g ((h.ids y hy).1.lt hg) ((h.ids y hy).2 g hg),(h.ids y hy).2.mono hST⟩⟩
theorem QIs.kept (h:QIs w S age q qv)(hk:∀k,k<w.heap.size->S k->w'.heap[k]? =w.heap[k]?)(hST:∀k,S k->T k):QIs w' T age q qv:=
 ⟨h.row.kept λg hg=>hk g (h.row.lt hg) (h.fq g hg),λy hy=>(h.eds y hy).kept λg hg=>hk g ((h.eds y hy).lt hg) (h.fe y hy g hg),h.fq.mono hST,λy hy=>(h.fe y hy).mono hST⟩
theorem OIs.kept {outs:List (Nat×Nat)}(h:OIs w S outs acked ov)(hk:∀k,k<w.heap.size->S k->w'.heap[k]? =w.heap[k]?)(hST:∀k,S k->T k):OIs w' T outs acked ov:=
 ⟨h.row.kept λg hg=>hk g (h.row.lt hg) (h.own g hg),h.own.mono hST⟩
theorem ij.kept {x:Xt}{tl:List Tp}(h:ij w S mb n0 s x tl zs)(hz:w.heap.size<=w'.heap.size)(hk:∀k,k<w.heap.size->S k\/k=mb->w'.heap[k]? =w.heap[k]?)(hST:∀k,S k->T k)(hn:¬T mb)(ht:s'.tip=s.tip)(hm:s'.main=s.main)(hs:s'.segs=s.segs)(hi:s.ids.length<=s'.ids.length):ij w' T mb n0 s' x tl zs:=by
 refine⟨hn,h_ h.ml hz,h.tip.imp (λh=>h) (hST _),?_,?_,?_⟩
 ·rw[ht];exact h.map.same (hk _ h.map.lt (h.tip.elim .inr .inl))
 ·rw[hm];exact h.main.kept (λk hl hS=>hk k hl (.inl hS)) hST
 rw[hs];exact h.train.kept (λk hl hS=>hk k hl (.inl hS)) hST (by unfold Ts.top;omega)
theorem dY.keptT {l:List Cg}{cl:List Cw}(h:dY w S cv l cl)(hO:aM w w' ts)(hST:∀k,S k->T k)(h1:273∉ts)(h2:49∉ts):dY w' T cv l cl:=
 ⟨h.fst,hO.sl h.row h1,h.own.mono hST,λy hy=>⟨hO.sl (h.eds y hy).1 h2,(h.eds y hy).2.mono hST⟩⟩
theorem gJ.keptT {j:Option Jb}(h:gJ w S N v j)(hO:aM w w' ts)(hST:∀k,S k->T k)(hN:N<=N')(h1:242∉ts)(h2:80∉ts):gJ w' T N' v j:=by
 cases j with
 |none=>exact h
 |some j=>
  obtain⟨b,m,a,e,c,f,g,d,i,l⟩:=h;exact⟨b,m,a,e,hO.bx c h1,hO.sl f h2,g,e_ d hN,hST _ i,l.mono hST⟩
def dO (ts:List TypeId):Prop:=273∉ts/\49∉ts/\242∉ts/\80∉ts
theorem dt.keptT {z:Nat×Sm}(h:dt w S N z)(hO:aM w w' ts)(hST:∀k,S k->T k)(hN:N<=N')(h0:240∉ts)(h1:dO ts):dt w' T N' z:=by
 obtain⟨b,c,a,h⟩:=h;exact⟨b,c,a,hO.bx h.box h0,h.chs.keptT hO hST h1.1 h1.2.1,h.job.keptT hO hST hN h1.2.2.1 h1.2.2.2,hST _ h.own⟩
theorem ik.keptT {tv:Value}{l:List Sm}(h:ik w S N tv l zs)(hO:aM w w' ts)(hST:∀k,S k->T k)(hN:N<=N')(hp:210∉ts)(h0:240∉ts)(h1:dO ts):ik w' T N' tv l zs:=
 ⟨h.snd,hO.sl h.row hp,h.own.mono hST,h.nd,λz hz=>(h.segs z hz).keptT hO hST hN h0 h1⟩
theorem jB.keptT {mv:Value}{l:List (Nat×List Nat)}{tl:List Tp}(h:jB w S mv l tl)(hO:aM w w' ts)(hST:∀k,S k->T k)(h1:110∉ts)(h2:3∉ts):jB w' T mv l tl:=
 ⟨h.fst,hO.sl h.row h1,h.own.mono hST,λy hy=>⟨hO.sl (h.ids y hy).1 h2,(h.ids y hy).2.mono hST⟩⟩
theorem QIs.keptT (h:QIs w S age q qv)(hO:aM w w' ts)(hST:∀k,S k->T k)(h1:193∉ts)(h2:49∉ts):QIs w' T age q qv:=
 ⟨hO.sl h.row h1,λy hy=>hO.sl (h.eds y hy) h2,h.fq.mono hST,λy hy=>(h.fe y hy).mono hST⟩
theorem OIs.keptT {outs:List (Nat×Nat)}(h:OIs w S outs acked ov)(hO:aM w w' ts)(hST:∀k,S k->T k)(h1:99∉ts):OIs w' T outs acked ov:=⟨hO.sl h.row h1,h.own.mono hST⟩
def jA (ts:List TypeId):Prop:=110∉ts/\3∉ts/\210∉ts/\240∉ts/\dO ts
theorem ij.keptT {x:Xt}{tl:List Tp}(h:ij w S mb n0 s x tl zs)(hO:aM w w' ts)(hST:∀k,S k->T k)(hn:¬T mb)(ht:s'.tip=s.tip)(hm:s'.main=s.main)(hs:s'.segs=s.segs)(hi:s.ids.length<=s'.ids.length)(hT:jA ts)(hM:aD w' x.tip x.n s.tip):ij w' T mb n0 s' x tl zs:=
 ⟨hn,h_ h.ml hO.size,h.tip.imp (λh=>h) (hST _),ht▸hM,hm▸h.main.keptT hO hST hT.1 hT.2.1,hs▸h.train.keptT hO hST (by unfold Ts.top;omega) hT.2.2.1 hT.2.2.2.1 hT.2.2.2.2⟩
structure bI (w:World)(S:Nat->Prop)(yb mb n0:Nat)(c:Cfg)(s:Ts)(q:List Pw)(sb:Nat)(qv ov:Value)(x:Xt):Prop where
 qs:(q.map Prod.fst).Perm s.queue
 box:Bx w yb 201 (aA c x s.begun s.now qv sb s.outs.length ov)
 que:QIs w S c.age q qv
 sub:dR w sb s.ids
 outs:OIs w S s.outs s.acked ov
 fy:S yb
 fs:S sb
 rest:Ce w S mb n0 s x
 nt:sb≠x.tip
def aJ (w:World)(S:Nat->Prop)(yb mb n0:Nat)(c:Cfg)(s:Ts):Prop:=∃q sb qv ov x,bI w S yb mb n0 c s q sb qv ov x/\x.n<=n0+4*s.outs.length
theorem bI.kept {x:Xt}(h:bI w S yb mb n0 c s q sb qv ov x)(hz:w.heap.size<=w'.heap.size)(hk:∀k,k<w.heap.size->S k\/k=mb->w'.heap[k]? =w.heap[k]?)(hST:∀k,S k->T k)(hn:¬T mb):bI w' T yb mb n0 c s q sb qv ov x:=by
 obtain⟨d,e,b⟩:=h.rest;have a:∀k,k<w.heap.size->S k->w'.heap[k]? =w.heap[k]? :=λk hl hS=>hk k hl (.inl hS);exact⟨h.qs,(a _ h.box.lt h.fy).trans h.box,h.que.kept a hST,h.sub.same (a _ h.sub.lt h.fs),h.outs.kept a hST,hST _ h.fy,hST _ h.fs,⟨d,e,b.kept hz hk hST hn rfl rfl rfl (b_ _)⟩,h.nt⟩
theorem bI.nm {x:Xt}(h:bI w S yb mb n0 c s q sb qv ov x):¬S mb/\mb<w.heap.size:=by
 obtain⟨b,d,a⟩:=h.rest;exact⟨a.nm,a.ml⟩
theorem bI.np {x:Xt}(h:bI w S yb mb n0 c s q sb qv ov x):¬aE S w mb:=aE.not h.nm.1 h.nm.2
theorem aJ.nm (h:aJ w S yb mb n0 c s):¬S mb/\mb<w.heap.size:=by
 obtain⟨q,d,b,a,x,h,_⟩:=h;exact h.nm
theorem aJ.kept (h:aJ w S yb mb n0 c s)(hz:w.heap.size<=w'.heap.size)(hk:∀k,k<w.heap.size->S k\/k=mb->w'.heap[k]? =w.heap[k]?):aJ w' S yb mb n0 c s:=by
 obtain⟨q,e,d,b,x,h,a⟩:=h;exact⟨q,e,d,b,x,h.kept hz hk (λ_ h=>h) h.nm.1,a⟩
theorem aJ.later (h:aJ w S yb mb n0 c s)(hb:Bl w w'):aJ w' S yb mb n0 c s:=h.kept hb.size λk hk _=>hb.block k hk
theorem aJ.mono (h:aJ w S yb mb n0 c s)(hST:∀k,S k->T k)(hn:¬T mb):aJ w T yb mb n0 c s:=by
 obtain⟨q,e,d,b,x,h,a⟩:=h;exact⟨q,e,d,b,x,h.kept (b_ _) (λ_ _ _=>rfl) hST hn,a⟩
theorem bI.later {x:Xt}(h:bI w S yb mb n0 c s q sb qv ov x)(hb:Bl w w'):bI w' S yb mb n0 c s q sb qv ov x:=h.kept hb.size (λk hk _=>hb.block k hk) (λ_ h=>h) h.nm.1
theorem bI.mono {x:Xt}(h:bI w S yb mb n0 c s q sb qv ov x)(hST:∀k,S k->T k)(hn:¬T mb):bI w T yb mb n0 c s q sb qv ov x:=h.kept (b_ _) (λ_ _ _=>rfl) hST hn
theorem bI.sl {x:Xt}(h:bI w S yb mb n0 c s q sb qv ov x):∀y∈q,bD y.2:=λy hy=>by
 obtain⟨a,b,e⟩:=(h.que.eds y hy).form
 exact⟨a,_,b,e⟩
theorem bI.qlen {x:Xt}(h:bI w S yb mb n0 c s q sb qv ov x):q.length=s.queue.length:=by rw[<-h.qs.length_eq,d_]
theorem dR.ne_box {ids:List Nat}(h:dR w sb ids)(hB:Bx w b t cs):sb≠b:=λe=>by
 obtain⟨D,⟨d,a,c,_⟩,_⟩:=h
 subst e
 unfold Bx at hB
 rw[hB] at c;cases c
theorem Sl.apart {e':TypeId}{size n:Nat}(h:Sl w e size v n xs)(h':Sl w e' size' v' n' xs')(hne:e≠e'){g:Nat}(hv:v.ownBlock=some g):v'.ownBlock≠some g:=λhv'=>by
 obtain⟨c,d⟩:=h.typed hv
 obtain⟨b,a⟩:=h'.typed hv'
 rw[d] at a
 injection a with a
 injection a with _ h2 _
 exact hne h2
end
section
variable{g:ByteArray->ByteArray}{es:List Ed}{l':List Fl}{ts:List TypeId}{N N':Nat}{v:Value}{w w' w0:World}
def cu (w:World)(N:Nat)(v:Value)(g:ByteArray->ByteArray):Prop:=∃fl:List Fl,Sl w 80 2 v fl.length (fl.flatMap cF)/\fE fl g/\fl.length<=N/\∀f∈fl,dy f=true
def iS (w:World)(es:List Ed)(v:Value):Prop:=Sl w 49 3 v es.length (es.flatMap cE)
theorem cu.kept (h:cu w N v g)(hk:∀b,v.ownBlock=some b->w'.heap[b]? =w.heap[b]?)(hN:N<=N'):cu w' N' v g:=by
 obtain⟨a,c,d,e,f⟩:=h;exact⟨a,c.kept hk,d,e_ e hN,f⟩
theorem cu.later (h:cu w N v g)(hb:Bl w w'):cu w' N v g:=by
 obtain⟨a,b,c,d,e⟩:=h;exact⟨a,b.later hb,c,d,e⟩
theorem cu.form (h:cu w N v g):bD v:=by
 obtain⟨d,b,_⟩:=h;obtain⟨a,c,e⟩:=b.form;exact⟨a,_,c,e⟩
theorem cu.ty (h:cu w N v g){b:Nat}(hb:v.ownBlock=some b):cy w b 80:=by
 obtain⟨c,a,_⟩:=h;exact a.ty hb
theorem cu.keptT (h:cu w N v g)(hK:aM w w' ts)(ht:80∉ts)(hN:N<=N'):cu w' N' v g:=
 h.kept (λ_ hb=>hK.same _ _ (h.ty hb) ht) hN
theorem iS.later (h:iS w es v)(hb:Bl w w'):iS w' es v:=Sl.later h hb
theorem iS.form (h:iS w es v):bD v:=by
 obtain⟨a,c,e⟩:=Sl.form h;exact⟨a,_,c,e⟩
theorem ay.of_sl {l:List Fl}(h:Sl w 80 2 v l.length (l.flatMap cF)):ay w v l:=by
 rcases h.2 with ⟨rfl,d⟩|⟨g,b,a,c,rfl,e,_⟩
 ·exact .inl ⟨List.length_eq_zero_iff.1 d,none,0,rfl⟩
 refine .inr ⟨g,b,a,rfl,(j_.1 e).1,λi hi=>?_,λi hi=>?_⟩
 ·exact h.cell (j:=i*2) (by have:=aq cF 2 (λ_=>rfl) l i 0 hi (by decide);simpa[cF] using this)
 rw[J_];exact h.cell (j:=i*2+1) (by have:=aq cF 2 (λ_=>rfl) l i 1 hi (by decide);simpa[cF] using this)
theorem aH.of_sl {l:List Ed}(h:iS w l v):aH w v l:=by
 rcases h.2 with ⟨rfl,d⟩|⟨g,b,a,c,rfl,e,_⟩
 ·exact .inl ⟨List.length_eq_zero_iff.1 d,none,0,rfl⟩
 refine .inr ⟨g,b,a,rfl,(j_.1 e).1,λi hi=>?_,λi hi=>?_,λi hi=>?_⟩
 ·exact Sl.cell h (j:=i*3) (by have:=aq cE 3 (λ_=>rfl) l i 0 hi (by decide);simpa[cE] using this)
 ·rw[J_];exact Sl.cell h (j:=i*3+1) (by have:=aq cE 3 (λ_=>rfl) l i 1 hi (by decide);simpa[cE] using this)
 rw[J_];exact Sl.cell h (j:=i*3+2) (by have:=aq cE 3 (λ_=>rfl) l i 2 hi (by decide);simpa[cE] using this)
theorem wQ {l:List Fl}(hl:∀f∈l,dy f=true)(he:bT es)(ht:fE l' (ck (aF l) es))(ha:dr Prod.fst l):∀f∈l',dy f=true:=λf hf=>by
 obtain⟨c,h⟩:=(ht.mem f).1 hf
 by_cases hq:∃e∈es,e.1=f.1
 ·obtain⟨e,b,a⟩:=hq
  have i:=gY (g:=aF l) he.2.2.2 b
  rw[a,c] at i
  have j:=(iK e).1 (he.2.2.1 e b)
  refine(dz f).2 ⟨a▸j.1,?_,i▸j.2.2.1⟩
  have:f.2.size≠0:=λh0=>h (by
   rw[<-ByteArray.size_data] at h0
   cases hb:f.2 with
   |mk d=>rw[hb] at h0;simpa using h0)
  omega
 rw[gV λe b a=>hq ⟨e,b,a⟩] at c
 refine hl f ?_
 exact(dU ha (λf hf=>by
  intro e
  have:=((dz f).1 (hl f hf)).2.1
  rw[e] at this
  exact absurd this (by decide)) ..).2 ⟨c,h⟩
theorem kx:∀(l:List Cg) (g:ByteArray->ByteArray) (x:Cg) (m:List Cg),(aB g l).2=l.length->dX (after g l) x.2=false->(aB g (l++x::m)).1=after g l
 |[],g,x,m,_,h=>by
  have h':dX g x.2=false:=h
  simp[aB,h',after]
 |y::l,g,x,m,h,hx=>by
  unfold aB at h ⊢
  rw[List.cons_append]
  by_cases hy:dX g y.2=true
  ·simp only[hy,if_true,List.length_cons,Nat.add_right_cancel_iff] at h ⊢
   exact kx l (ck g y.2) x m h hx
  simp[hy] at h
abbrev Rd:=Cg×Nat×Nat×Value
def wOf (y:Rd):Wt:=(y.1.1,y.2.1,y.2.2.1,y.2.2.2)
def wt (x:Pw):Wt:=(x.1.id,x.1.lane,x.1.passed,x.2)
def yX (x:Pw):Rd:=(x.1.cg,x.1.lane,x.1.passed,x.2)
structure LIs (w0 w:World)(lv:Value)(l:List Cg)(cl:List Rd):Prop where
 fst:cl.map Prod.fst=l
 row:Sl w 165 4 lv cl.length ((cl.map wOf).flatMap cW)
 eds:∀y∈cl,iS w0 y.1.2 y.2.2.2
theorem LIs.kept {lv:Value}{l:List Cg}{cl:List Rd}(h:LIs w0 w lv l cl)(hk:∀b,lv.ownBlock=some b->w'.heap[b]? =w.heap[b]?):LIs w0 w' lv l cl:=⟨h.fst,h.row.kept hk,h.eds⟩
theorem LIs.len {lv:Value}{l:List Cg}{cl:List Rd}(h:LIs w0 w lv l cl):cl.length=l.length:=by rw[<-h.fst,d_]
structure Sv where
 x:Sm
 lv:Value
 til:Nat
 tv:Value
 cl:List Rd
def cr:Option Jb->Nat
 |none=>0
 |some j=>j.num
def cSg (z:Sv):List Value:=[z.lv,I z.x.fails,I z.x.by_,.bool (z.x.by_ !=0),I (cr z.x.job),I z.til,z.tv]
structure dC (w0 w:World)(N:Nat)(z:Sv):Prop where
 l:LIs w0 w z.lv z.x.l z.cl
 sl:bD z.tv
 job:∀j,z.x.job=some j->z.til=j.til/\cu w N z.tv j.files
theorem dC.kept {z:Sv}(h:dC w0 w N z)(h1:∀b,z.lv.ownBlock=some b->w'.heap[b]? =w.heap[b]?)(h2:∀b,cy w b 80->w'.heap[b]? =w.heap[b]?)(hN:N<=N'):dC w0 w' N' z:=
 ⟨h.l.kept h1,h.sl,λj hj=>⟨(h.job j hj).1,(h.job j hj).2.kept (λb hb=>h2 b ((h.job j hj).2.ty hb)) hN⟩⟩
def dS (c:Cfg)(tip mv idv qv sv ov:Value)(acked begun now:Nat):Array Value:=
 #[I c.lanes,I c.age,I c.batch,I c.window,I c.retries,I c.deadline,I c.queue,tip,mv,idv,qv,sv,ov,I acked,I begun,I now]
structure Nz where
 tip:Value
 mv:Value
 idv:Value
 qv:Value
 sv:Value
 ov:Value
 q:List Pw
 tl:List Tp
 zs:List Sv
structure aS (w0 w:World)(nb n0:Nat)(c:Cfg)(s:Ts)(z:Nz):Prop where
 below:Bl w0 w
 low:w0.heap.size<=nb
 box:Bx w nb 163 (dS c z.tip z.mv z.idv z.qv z.sv z.ov s.acked s.begun s.now)
 tip:cu w (n0+4*s.outs.length) z.tip s.tip
 mfst:z.tl.map Prod.fst=s.main
 mrow:w.ownsRow w0.heap.size 110 2 z.mv z.tl.length (z.tl.flatMap cTp)
 mids:∀y∈z.tl,Sl w 3 1 y.2 y.1.2.length (y.1.2.map cI)/\∀b,y.2.ownBlock=some b->z.idv.ownBlock≠some b
 ids:w.ownsRow w0.heap.size 3 1 z.idv s.ids.length (s.ids.map cI)
 qs:z.q.map Prod.fst=s.queue
 row:w.ownsRow w0.heap.size 165 4 z.qv z.q.length ((z.q.map wt).flatMap cW)
 eds:∀x∈z.q,iS w0 x.1.edits x.2
 ss:z.zs.map Sv.x=s.segs
 srow:w.ownsRow w0.heap.size 170 7 z.sv z.zs.length (z.zs.flatMap cSg)
 segs:∀y∈z.zs,dC w0 w (s.top n0) y/\∀b,y.lv.ownBlock=some b->z.qv.ownBlock≠some b
 outs:w.ownsRow w0.heap.size 99 3 z.ov s.outs.length (oc 0 s.outs)
def bM (w0 w:World)(nb n0:Nat)(c:Cfg)(s:Ts):Prop:=∃z,aS w0 w nb n0 c s z
end
end Go.Proofs.YtgamgomepdfgdaaGreat
