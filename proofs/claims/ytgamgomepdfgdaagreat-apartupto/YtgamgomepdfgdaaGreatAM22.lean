import Derived.Test.YtgamgomepdfgdaaGreatAM21
import Derived.Test.YtgamgomepdfgdaaGreatAM14
set_option maxRecDepth 100000
set_option maxHeartbeats 8000000
namespace Go.Proofs.YtgamgomepdfgdaaGreat
open Go.RowKit Go.Proofs.Tryz
theorem qC (yb:Nat)(c:Cfg)(fv lv:Value)(lr:List Lr)(torn:ByteArray)(broken:Bool)(keep id lane:Int)(ea:Option Addr)(en ec:Nat)(w:World)(hR:bJ w yb c fv lr torn true broken keep lv):
 c_ 87 #[Px yb,I id,I lane,.slice ea en ec] w λe w'=>e=.returned (I 8)/\w'=w:=by
 have a:=hR.box.c 10 (.bool true);clear hR;go_enter func87,ntmps87;go_wp2_with fail;go_ret;exact⟨rfl,rfl⟩
def zv (w w':World)(e:Ending)(c:Cfg)(s:Ts)(id lane:Int)(es:List Ed)(k:Int)(R:World->Nat->World->Prop):Prop:=
 (∃k':Int,k'≠0/\dc c s id lane es k'/\e=.returned (I k')/\Bl w w')\/
 (dc c s id lane es 0/\e=.returned (I k)/\∃W g,Bl w W/\W.ownsRow w.heap.size 49 3 (.slice (some ⟨g,0,none⟩) es.length es.length) es.length (es.flatMap cE)/\R W g w')
theorem ug (yb:Nat)(c:Cfg)(fv lv:Value)(lr:List Lr)(torn:ByteArray)(broken:Bool)(keep id lane k:Int)(es:List Ed)(ea:Option Addr)(ec:Nat)(R:World->Nat->World->Prop)(w:World)(hR:bJ w yb c fv lr torn false broken keep lv)(g0:ByteArray->ByteArray)(n0:Nat)(hF:dw w c g0 n0 fv lr)(hc:c.Ok)(s:Ts)(hs:s=Ts.all c g0 (lr.map Prod.fst))(hE:aH w (.slice ea es.length ec) es)(hen:es.length<8796093022208)(hW:dc c s id lane es 0->∀W g,Bl w W->W.ownsRow w.heap.size 49 3 (s_ g 0 es.length es.length) es.length (es.flatMap cE)->c_ 91 #[Px yb,.agg #[I 1,I lane,I id,.bool false,s_ g 0 es.length es.length]] W λe w'=>e=.returned (I k)/\R W g w'):
 c_ 87 #[Px yb,I id,I lane,.slice ea es.length ec] w λe w'=>zv w w' e c s id lane es k R:=by
 obtain⟨i0,hi,ad,O,af⟩:=info_parts qA;have ac:(prog.info? 49).map (·.size)=some 3:=by rw[hi];simp[O]
 have Y:=hR.box.c 10 (.bool false);have u:=pU es _ w hE hen;have HR:=hd hR;have HE:=hd hE;have G:Hid (∀k,dc c s id lane es k↔((¬iG c id lane es/\k=2)\/(iG c id lane es/\id.toNat∈s.ids/\k=3)\/(iG c id lane es/\id.toNat∉s.ids/\c.queue<=s.queue.length/\k=4)\/(iG c id lane es/\id.toNat∉s.ids/\s.queue.length<c.queue/\k=0))):=λk=>Iff.rfl;have Q:Hid (iG c id lane es↔(1<=id/\id<=1000000/\0<=lane/\lane<c.lanes/\bT es)):=Iff.rfl;have HW:=hd hW;unfold zv;generalize dc c s id lane es=P at G HW ⊢;clear hR hE hW;go_enter func87,ntmps87;go_wp2_with fail;go_fit u;rintro e w1 ⟨⟨r,rfl,hr⟩,y⟩;have F:=hd hr;have o:=hd y;have d:=HR.out.later y;have d0:=d.box.c 0 (I c.lanes);clear hr u Y y;by_cases hch:r=true/\¬id<1/\¬1000000<id/\¬lane<0/\¬(c.lanes:Int)<=lane
 ·obtain⟨rfl,n1,n2,n3,n4⟩:=hch;have b:Hid (iG c id lane es):=Q.out.2 ⟨by omega,by omega,by omega,by omega,F.out.1 rfl⟩;have Z:=nJ d (hF.later o.out) hc;rw[<-hs] at Z;have x:=(hF.fits.inv hc).2.ids;rw[<-hs,d_] at x;have ak:s.ids.length<1048576:=by have:=hF.len;omega
  have M:Hid (Bx w1 yb 151 (iU c fv lv torn false broken keep)):=d.box;have ah:s.queue.length<=16:=by rw[hs];exact e_ (hF.fits.inv hc).1.len hc.2.2.2.2.2.2.2
  clear d hF hs x;go_wp2_with fail;go_fit Z;rintro e U ⟨⟨nb,rfl,q,am,qv,ov,ao,mv,sv,h⟩,z⟩;have a:Hid (Bl w U):=o.out.trans (z.mono o.out.size);obtain⟨ia,ic,rfl⟩:=ag h.ids;obtain⟨qa,qc,rfl⟩:=ag h.row;have n9:=h.box.c 9 (.slice ia s.ids.length ic);have an:=h.box.c 10 (.slice qa q.length qc);have e6:U.cell? ⟨yb,6,none⟩=some (I c.queue):=ae z (M.out.cell (i:=6) rfl);have K:Hid (q.length=s.queue.length):=by show _=_;rw[<-h.qs,d_]
  have HI:Hid (U.ownsRow w1.heap.size 3 1 (.slice ia s.ids.length ic) s.ids.length (s.ids.map cI)):=h.ids;clear Z h z d0 M
  have HP:Hid (id.toNat∈s.ids↔∃m,∃h:m<s.ids.length,(s.ids[m]:Int)=id):=by
   constructor
   ·intro T;obtain⟨m,h,e⟩:=Q_.1 T;exact⟨m,h,by rw[e];omega⟩
   rintro⟨m,h,e⟩;rw[<-e];exact i_ h
  go_wp2_with fail;go_loopw [11] (λi wr=>∃j:Nat,j<=s.ids.length/\i=I j/\wr=U/\Hid (∀m (h:m<j) (h':m<s.ids.length),(s.ids[m]:Int)≠id)) (λi _=>s.ids.length-(intOf i).toNat)
  case atStart=>exact⟨0,k_ _,rfl,rfl,λm h=>by omega⟩
  obtain⟨j,hj,rfl,rfl,l⟩:=hrel;by_cases hlj:j<s.ids.length
  ·obtain⟨g,aa⟩:∃g,ia=some ⟨g,0,none⟩:=by
    rcases HI.out.2 with ⟨_,h0⟩|⟨g,ai,aj,e,_⟩
    ·omega
    injection e with e _ _;exact⟨g,e⟩
   subst aa
   have d0:wr.cell? ⟨g,j,none⟩=some (I s.ids[j]):=by
    have h1:=World.ownsRow.cells (g:=g) HI.out rfl;have h3:=h1 j (I s.ids[j]) (by simp[cI,hlj]);rw[bE,O_] at h3;exact h3
   have Hy:Hid ((s.ids[j]:Int)=id->id.toNat∈s.ids):=λh=>HP.out.2 ⟨j,hlj,h⟩
   have Hn:Hid ((s.ids[j]:Int)≠id->∀m (h:m<j+1) (h':m<s.ids.length),(s.ids[m]:Int)≠id):=λh m T hm'=>by
    by_cases e:m=j
    ·subst e;exact h
    exact l.out m (by omega) hm'
   generalize s.ids[j]=a0 at *;clear l;by_cases hid:(a0:Int)=id
   ·have ab:Hid (id.toNat∈s.ids):=Hy.out hid;subst hid;go_wp2_with fail;go_ret;exact .inl ⟨3,by decide,(G.out 3).2 (.inr (.inl ⟨b.out,ab.out,rfl⟩)),rfl,a.out⟩
   have al:((a0:Int)==id)=false:=by simpa using hid
   go_wp2_with fail;exact⟨⟨j+1,hlj,by go_num,by first|exact rfl|exact trivial,Hn.out hid⟩,by simp[intOf];omega⟩
  have J:Hid (id.toNat∉s.ids):=λhp=>by
   obtain⟨m,T,he⟩:=HP.out.1 hp;exact l.out m (by omega) T he
  by_cases hfull:c.queue<=s.queue.length
  ·have p:(c.queue:Int)<=(q.length:Int):=by have:=K.out;omega
   go_wp2_with fail;go_quiet (fail);go_wp2_with fail;go_ret;exact .inl ⟨4,by decide,(G.out 4).2 (.inr (.inr (.inl ⟨b.out,J.out,hfull,rfl⟩))),rfl,⟨a.out.os,a.out.tape,a.out.output,a.out.size,a.out.block⟩⟩
  have p:¬(c.queue:Int)<=(q.length:Int):=by have:=K.out;omega
  have D:Hid (P 0):=(G.out 0).2 (.inr (.inr (.inr ⟨b.out,J.out,by omega,rfl⟩)));have H:=HW.out D.out;have V:Hid (aH wr (.slice ea es.length ec) es):=HE.out.later a.out
  have q2:Hid (i0.bytes*es.length<=281474976710656):=by
   show i0.bytes*es.length<=281474976710656;have h1:es.length<=4:=(Q.out.1 b.out).2.2.2.2.2.1;rw[af];omega
  have N:∀v∈es.flatMap cE,v.oneCell'=true:=pm es;have h4:es.length<=4:=(Q.out.1 b.out).2.2.2.2.2.1;go_wp2_with fail;go_quiet (fail);go_wp2_with (first|(at_make;refine wpList_make_full _ rfl _ _ _ rfl wr.heap.size _ i0 _ 3 underlying27 hi ad O _ _ _ _ es.length rfl rfl (by omega) (by omega) q2.out (by unfold maxLen;omega) (b_ _) ?_;intro w3 hrow3 hg3)|(refine fF _ rfl _ _ _ _ rfl 49 3 wr.heap.size underlying27 ac _ es.length ea es.length ec rfl rfl (b_ _) _ hrow3 (es.flatMap cE) (aR cE 3 (λ_=>rfl) es) (λh0=>po (V.out.grown (show wr.grownBy w3 none from ⟨hg3.os,hg3.tape,hg3.output,hg3.size,hg3.block⟩) (Classical.em _)) h0) N ?_;intro w4 hrow4 hg4))
  have e0:(madeCells (Value.agg #[Value.string ⟨#[]⟩,Value.string ⟨#[]⟩,Value.string ⟨#[]⟩]).cells (es.length*3)).toList.drop (es.flatMap cE).length=[]:=by
   apply List.drop_eq_nil_of_le;have:=hrow3.1;rw[this,aR cE 3 (λ_=>rfl) es];exact b_ _
  have f:wr.grownBy w3 none:=⟨hg3.os,hg3.tape,hg3.output,hg3.size,hg3.block⟩;have C:Hid (Bl w w4):=(a.out.grown f a.out.size (by simp)).grown hg4 (e_ a.out.size f.size) (λk h=>by cases h;exact a.out.size)
  have E:Hid (w4.ownsRow w.heap.size 49 3 (s_ (wr.heap.size) 0 es.length es.length) es.length (es.flatMap cE)):=by
   have:=cp hrow4 (base':=w.heap.size) a.out.size;rw[e0,T_] at this;exact this
  have hC:=H w4 wr.heap.size C.out E.out;clear hrow3 hrow4 hg3 hg4 f e0 H;go_fit hC;rintro e w5 ⟨rfl,L⟩;have X:=hd L;clear L hC;go_wp2_with fail;go_ret;exact .inr ⟨D.out,rfl,w4,wr.heap.size,C.out,E.out,X.out⟩
 have l:Hid (¬iG c id lane es):=λh=>by
  obtain⟨n,t,B,S,a5⟩:=Q.out.1 h;exact hch ⟨F.out.2 a5,by omega,by omega,by omega,by omega⟩
 have A:r=false\/(r=true/\id<1)\/(r=true/\¬id<1/\1000000<id)\/(r=true/\¬id<1/\¬1000000<id/\lane<0)\/(r=true/\¬id<1/\¬1000000<id/\¬lane<0/\(c.lanes:Int)<=lane):=by
  cases r
  ·exact .inl rfl
  refine .inr ?_;by_cases n:id<1
  ·exact .inl ⟨rfl,n⟩
  by_cases t:1000000<id
  ·exact .inr (.inl ⟨rfl,n,t⟩)
  by_cases B:lane<0
  ·exact .inr (.inr (.inl ⟨rfl,n,t,B⟩))
  by_cases S:(c.lanes:Int)<=lane
  ·exact .inr (.inr (.inr ⟨rfl,n,t,B,S⟩))
  exact absurd ⟨rfl,n,t,B,S⟩ hch
 clear hch d;rcases A with rfl|⟨rfl,n⟩|⟨rfl,n,t⟩|⟨rfl,n,t,B⟩|⟨rfl,n,t,B,S⟩
 all_goals
  go_wp2_with fail;go_ret;exact .inl ⟨2,by decide,(G.out 2).2 (.inl ⟨l.out,rfl⟩),rfl,o.out⟩
section
variable{ea:Option Addr}{r:Rc}{w w':World}
theorem jZ.later {en:Nat}(h:jZ w r ea en)(hb:Bl w w'):jZ w' r ea en:=λh1=>by
 obtain⟨b,a,c,d,e,f,g,j⟩:=h h1
 exact⟨b,a,c,d,h_ e hb.size,λi hi=>ae hb (f i hi),λi hi=>ae hb (g i hi),λi hi=>ae hb (j i hi)⟩
theorem Fi (yb:Nat)(c:Cfg)(fv lv:Value)(lr:List Lr)(T:List UInt8)(down broken:Bool)(keep:Int)(w:World)(hR:bJ w yb c fv lr (bs T) down broken keep lv)(hok:∀x∈lr,x.1.ok/\∃a n cap,x.2=.slice a n cap/\jZ w x.1 a n)(hn:lr.length<1048576)(hl:(bq (lr.map Prod.fst)).length+T.length<1099511627776):
 Calls prog 143 #[Px yb] w λe w'=>e=.returned (.string (bs (bq (lr.map Prod.fst)++T)))/\Bl w w':=by
 obtain⟨L,M,rfl⟩:=hR.row.form;have O:=hR.box.c 8 (.slice L lr.length M);have P:=hR.box.c 9 (.string (bs T));have D:Hid (Sl w 168 5 (.slice L lr.length M) lr.length (lr.flatMap cL)):=hR.row;have A:=hd hok;clear hR hok;go_enter func143,ntmps143;go_wp2_with fail;go_loopw [3,4] (λsv i wr=>∃k:Nat,k<=lr.length/\i=I k/\sv=.string (bs (bq ((lr.map Prod.fst).take k)))/\Hid (Bl w wr)) (λ_ i _=>lr.length-(intOf i).toNat)
 case atStart=>exact⟨0,k_ _,rfl,by rfl,n_ _ _⟩
 obtain⟨k,hk,rfl,rfl,b⟩:=hrel;have W:=ae b.out O;have X:=ae b.out P
 have v:(bq ((lr.map Prod.fst).take k)).length<=(bq (lr.map Prod.fst)).length:=by
  have:=j7 (lr.map Prod.fst) k [];rwa [T_] at this
 by_cases hlk:k<lr.length
 ·have B:k<(lr.map Prod.fst).length:=by rw[d_];exact hlk
  obtain⟨t,E,G,F,J,H⟩:=A.out _ (i_ hlk);have p:=oN lr[k].1 t E G F wr (H.later b.out);unfold Al at p
  have h:bq ((lr.map Prod.fst).take (k+1))=bq ((lr.map Prod.fst).take k)++lr[k].1.bytes:=by
   rw[kO B];simp
  have f:(bq ((lr.map Prod.fst).take (k+1))).length<=(bq (lr.map Prod.fst)).length:=by
   have:=j7 (lr.map Prod.fst) (k+1) [];rwa [T_] at this
  have m:bs (bq ((lr.map Prod.fst).take k))++bs lr[k].1.bytes=bs (bq ((lr.map Prod.fst).take (k+1))):=by rw[bo,h]
  obtain⟨g,q,cap,K,_⟩:=D.out.addr (by omega);have Q:Hid (Sl w 168 5 (.slice (some ⟨g,q,none⟩) lr.length cap) lr.length (lr.flatMap cL)):=by have:=D.out;rw[K] at this;exact this
  injection K with hva _ hvc;subst hva hvc
  have r:∀j (u:Value),j<5->(cL lr[k])[j]? =some u->wr.cell? ⟨g,q+k*5+j,none⟩=some u:=λj u hj hu=>by
   have:=Q.out.cell (j:=k*5+j) (u:=u) (by rw[aq cL 5 (λ_=>rfl) lr k j hlk hj];exact hu);rw[J_];exact ae b.out this
  have Y:wr.cell? ⟨g,q+k*5,none⟩=some (I lr[k].1.kind):=r 0 _ (by decide) rfl;have Z:=r 1 (I lr[k].1.lane) (by decide) rfl;have d2:=r 2 (I lr[k].1.num) (by decide) rfl;have d3:=r 3 (.bool lr[k].1.pass) (by decide) rfl;have d4:=r 4 (.slice E G F) (by decide) (by rw[<-J];rfl);have o:(bs (bq ((lr.map Prod.fst).take k))).size+(bs lr[k].1.bytes).size=(bq ((lr.map Prod.fst).take (k+1))).length:=by rw[bh,bh,h,a_]
  have C:¬9223372036854775807<(bs (bq ((lr.map Prod.fst).take k))).size+(bs lr[k].1.bytes).size:=by rw[o];omega
  clear o;obtain⟨y,d⟩:∃y,bq ((lr.map Prod.fst).take (k+1))=y:=⟨_,rfl⟩;rw[d] at h f m;have z:=hd d;clear d;generalize bq ((lr.map Prod.fst).take k)=U at *;generalize lr[k].1.bytes=V at *;generalize lr[k].1.kind=r0 at *;generalize lr[k].1.lane=r1 at *;generalize lr[k].1.num=r2 at *;generalize lr[k].1.pass=r3 at *;have R:(bs y).size=y.length:=bh _;clear J r h H t f v;go_wp2_with fail;go_fit p;rintro e S ⟨rfl,s⟩;have N:Hid (Bl w S):=b.out.trans (s.mono b.out.size);clear s p;go_wp2_with fail;exact⟨⟨k+1,hlk,by go_num,by rw[z.out],N.out⟩,by simp[intOf];omega⟩
 obtain rfl:k=lr.length:=by omega
 have l:(lr.map Prod.fst).take lr.length=lr.map Prod.fst:=m_ (by rw[d_];exact b_ _);rw[l];have C:¬9223372036854775807<(bs (bq (lr.map Prod.fst))).size+(bs T).size:=by rw[bh,bh];omega
 clear l v;have m:bs (bq (lr.map Prod.fst))++bs T=bs (bq (lr.map Prod.fst)++T):=bo _ _;go_wp2_with fail;go_ret;exact⟨rfl,b.out⟩
variable{q:List Pw}{age:Nat}
theorem uh (nb:Nat)(cs:Array Value)(w:World)(hB:Bx w nb 163 cs)(hv:cs[10]? =some (Zn)):
 c_ 184 #[Px nb] w λe w'=>e=.returned (Zn)/\Bl w w':=by
 have b:=hB.cell hv;clear hB hv;go_enter func184,ntmps184;go_wp2;go_loopw [3,4,5,6] (λlv Lv _ _ wr=>∃L:Nat,L<=4/\Lv=I L/\lv=Zn/\wr=w) (λ_ Lv _ _ _=>4-(intOf Lv).toNat)
 case atStart=>exact⟨0,k_ _,rfl,rfl,rfl⟩
 obtain⟨L,c,rfl,rfl,rfl⟩:=hrel;by_cases hL4:L<4
 ·have a:(L:Int)<4:=by omega
  go_wp2;refine wp_loop_rounds 1 ?_;rw[rounds_succ];go_wp2;exact⟨⟨L+1,hL4,by go_num,rfl,trivial⟩,by simp[intOf];omega⟩
 obtain rfl:L=4:=by omega
 go_wp2;go_ret;exact⟨rfl,n_ _ _⟩
theorem qD {r:Option Nat}(h:w.drew.grownBy w' r):w.grownBy w' r:=⟨h.os,h.tape,h.output,h.size,h.block⟩
theorem Eb (age:Nat)(q:List Wt)(L:Nat):rk age q L=rkG (pK age) q L:=rfl
def tW (x:Wt):Tw:=(x.1,x.2.1,x.2.2.1)
theorem wZ {s:List Ch}(hq:q.map Prod.fst=s):(rk age (q.map wt) 4).map tW=iC age s:=by
 subst hq;rw[Eb,jX,iC,jX,y_,y_];rfl
theorem xa (yb:Nat)(c:Cfg)(fv lv:Value)(lr:List Lr)(torn:ByteArray)(broken:Bool)(keep:Int)(w:World)(hR:bJ w yb c fv lr torn false broken keep lv)(g0:ByteArray->ByteArray)(n0:Nat)(hF:dw w c g0 n0 fv lr)(hc:c.Ok):
 c_ 138 #[Px yb] w λe w'=>o8 w w' e c.age (Ts.all c g0 (lr.map Prod.fst)).queue/\Bl w w':=by
 obtain⟨i0,hi,ah,ai,ak⟩:=info_parts rG;have am:=hR.box.c 10 (.bool false);have hN:=nJ hR hF hc;have B:=(hF.fits.inv hc).1;have A:=(hF.fits.inv hc).2.ids;rw[d_] at A;have an:=hF.len;generalize Ts.all c g0 (lr.map Prod.fst)=s at hN B A ⊢;have D:1<=c.age/\c.age<9:=⟨hc.2.1.1,by have:=hc.2.1.2;omega⟩;have al:s.queue.length<=16:=e_ B.len hc.2.2.2.2.2.2.2;have HI:=hd B;have V:=hc.1.2;have G:Hid (∀x∈s.queue,x.lane<4):=λx hx=>by have:=(B.top x hx).2.1;omega
 clear hR hF hc B;unfold o8;obtain⟨tq,n⟩:∃t,t=iC c.age s.queue:=⟨_,rfl⟩;rw[<-n];have v:=hd n;clear n;go_enter func138,ntmps138;go_wp2_with fail;go_fit hN;rintro e N ⟨⟨nb,rfl,q,ap,qv,ov,ar,mv,sv,h⟩,E⟩;have ad:q.length=s.queue.length:=by rw[<-h.qs,d_]
 have C:c_ 184 #[Px nb] N λe w'=>(∃X,e=.returned X/\w'.ownsRow N.heap.size 165 4 X (rk c.age (q.map wt) 4).length ((rk c.age (q.map wt) 4).flatMap cW))/\Bl N w':=by
  have H:∀x∈q,x.1∈s.queue:=λx hx=>by rw[<-h.qs];exact x_ hx
  rcases h.row.2 with ⟨rfl,h0⟩|⟨g,z,ab,rfl,_⟩
  ·obtain rfl:q=[]:=List.length_eq_zero_iff.1 h0;refine(uh nb _ N h.box rfl).mono ?_;rintro e w' ⟨rfl,f⟩;exact⟨⟨_,rfl,by rw[show rk c.age (([]:List Pw).map wt) 4=[] from rfl];exact B_ _ _ _ _⟩,f⟩
  have b:=h.row;have l:(q.map wt).length=q.length:=d_ _;rw[<-l] at b;refine(oK nb c.age (q.map wt) g z w.heap.size _ N h.box (by rw[l];rfl) rfl D b (λx hx=>?_) (by rw[l];omega)).mono ?_
  ·obtain⟨y,W,rfl⟩:=q_.1 hx;have:=HI.out.top _ (H y W);exact⟨h.sl y W,by show y.1.lane<1000;omega,by show y.1.passed<_;omega⟩
  rintro e w' ⟨X,rfl,U,h2⟩;exact⟨⟨X,rfl,U⟩,h2⟩
 have T:Hid ((rk c.age (q.map wt) 4).map tW=tq):=by rw[v.out];exact wZ h.qs
 have ac:Hid ((rk c.age (q.map wt) 4).length<=16):=by
  have:=congrArg List.length T.out;rw[d_,v.out,kV G.out] at this;show _<=_;omega
 have aa:Hid (∀x∈rk c.age (q.map wt) 4,bD x.2.2.2):=λx hx=>by
  have U:=(fJ (pK c.age) (q.map wt) 4).mem_iff.1 hx;obtain⟨y,W,rfl⟩:=q_.1 (Z_.1 U).1;exact h.sl y W
 have S:=hd E;clear h E hN ad G HI;generalize rk c.age (q.map wt) 4=r at *;go_wp2_with fail;go_fit C;rintro e O ⟨⟨v2,rfl,m⟩,F⟩;have p:Hid (Bl w O):=aj S.out F;have d:=hd m;obtain⟨a2,c2,rfl⟩:=ag m;have ao:r.length<=16:=ac.out;clear m F S C;go_wp2_with fail;go_loopw [4,7] (λov iv wr=>∃k:Nat,k<=r.length/\iv=I k/\Hid (wr.ownsRow O.heap.size 71 3 ov k (((r.take k).map tW).flatMap cT))/\Hid (Bl O wr)) (λ_ i _=>r.length-(intOf i).toNat)
 case atStart=>exact⟨0,k_ _,rfl,B_ _ _ _ _,n_ _ _⟩
 obtain⟨k,hk,rfl,K,f⟩:=hrel;by_cases hlk:k<r.length
 ·have hS:∃g,a2=some ⟨g,0,none⟩:=by
   rcases d.out.2 with ⟨_,h0⟩|⟨g,z,ab,hv,_⟩
   ·omega
   injection hv with hva;exact⟨g,hva⟩
  obtain⟨g,rfl⟩:=hS
  have M:∀j (u:Value),j<4->(cW r[k])[j]? =some u->wr.cell? ⟨g,k*4+j,none⟩=some u:=λj u hj hu=>by
   have:=(Sl.of_row d.out).cell (j:=k*4+j) (u:=u) (by rw[aq cW 4 (λ_=>rfl) r k j hlk hj];exact hu);rw[O_] at this;exact ae f.out this
  obtain⟨ea,en,ec,he⟩:=aa.out _ (i_ hlk);have d0:wr.cell? ⟨g,k*4,none⟩=some (I r[k].1):=M 0 _ (by decide) rfl;have d1:=M 1 (I r[k].2.1) (by decide) rfl;have d2:=M 2 (I r[k].2.2.1) (by decide) rfl;have d3:=M 3 (.slice ea en ec) (by decide) (by rw[<-he];rfl)
  have HW:Hid (((r.take (k+1)).map tW).flatMap cT=((r.take k).map tW).flatMap cT++[I r[k].1,I r[k].2.1,I r[k].2.2.1]):=by
   show _=_;rw[g_ hlk,w_,r_];simp[cT,tW]
  generalize r[k].1=P at *;generalize r[k].2.1=Q at *;generalize r[k].2.2.1=R at *;clear he M;have q1:Hid (k+1<=maxLen):=by show _<=_;unfold maxLen;omega
  have q2:Hid ((k+1)*24<=140737488355328):=by show _<=_;omega
  have q3:Hid (∀o,O.heap.size<=(wr.alloc o).heap.size):=λo=>q3' f.out o
  have J:some g≠u4.ownBlock:=λe=>by
   have U:=(f_ K.out g e.symm).1;have h2:=(f_ d.out g rfl).2;omega
  have KC:Hid (∀o w3,(wr.alloc o).grownBy w3 u4.ownBlock->∀j (u:Value),wr.cell? ⟨g,j,none⟩=some u->w3.cell? ⟨g,j,none⟩=some u):=λo w3 h j u hu=>h.cell (ae (af wr o) hu) J;clear J;go_wp2_with fail;go_region_held_law (λw'=>w'.cell? ⟨g,k*4,none⟩=some (I P)/\w'.cell? ⟨g,k*4+1,none⟩=some (I Q)/\w'.cell? ⟨g,k*4+2,none⟩=some (I R)) (go_keep) ((refine aT rfl _ _ 61 rfl O.heap.size _ i0 _ 3 24 underlying61 hi ah ai ak rfl (by decide) u4 _ _ rfl (p_ K.out _) ⟨wr.heap.size,0,none⟩ 1 1 [I P,I Q,I R] rfl rfl (au wr _ _) (by simp[Value.oneCell']) q1.out q2.out (q3.out _) ?_;intro v3 w3 hown3 hg3' hloc3;have a:=qD hg3';have e0:=KC.out (.cells #[I P,I Q,I R] 71) w3 a _ _ d0;have e1:=KC.out (.cells #[I P,I Q,I R] 71) w3 a _ _ d1;have e2:=KC.out (.cells #[I P,I Q,I R] 71) w3 a _ _ d2;have Z:=hd hown3;have Y:=hd a;clear hown3 a hg3' hloc3))
  all_goals
   go_wp2_with fail;refine⟨⟨k+1,hlk,by go_num,?_,?_⟩,by simp[intOf];omega⟩
   ·show w3.ownsRow _ _ _ _ _ _;rw[HW.out];exact Z.out
   exact(f.out.alloc f.out.size _).grown Y.out (q3.out _) (λj hj=>(f_ K.out j hj).1)
 obtain rfl:k=r.length:=by omega
 have L:Hid (wr.ownsRow w.heap.size 71 3 u4 tq.length (tq.flatMap cT)):=by
  have:=cp K.out (base':=w.heap.size) p.out.size;rw[m_ (b_ _),T.out] at this;rwa [<-T.out,d_,T.out]
 have S:Hid (Bl w wr):=aj p.out f.out;obtain⟨a4,c4,rfl⟩:=ag L.out;clear K;go_wp2_with fail;refine bodyPost_ret (by simp[results,results138,go_sem];rfl) rfl ⟨⟨_,by rfl,L.out⟩,S.out⟩
theorem uk (yb:Nat)(c:Cfg)(fv lv:Value)(lr:List Lr)(torn:ByteArray)(broken:Bool)(keep:Int)(w:World)(hR:bJ w yb c fv lr torn true broken keep lv):
 c_ 134 #[Px yb] w λe w'=>e=.returned (.tuple #[Zn,I 8])/\w'=w:=by
 have a:=hR.box.c 10 (.bool true);clear hR;go_enter func134,ntmps134;go_wp2_with fail;exact bodyPost_ret (v:=.tuple #[Zn,I 8]) (by simp[results,results134,go_sem]) rfl ⟨rfl,rfl⟩
theorem ui (yb:Nat)(c:Cfg)(fv lv:Value)(lr:List Lr)(torn:ByteArray)(broken:Bool)(keep:Int)(w:World)(hR:bJ w yb c fv lr torn true broken keep lv):
 c_ 136 #[Px yb] w λe w'=>e=.returned (.tuple #[Zn,I 8])/\w'=w:=by
 have a:=hR.box.c 10 (.bool true);clear hR;go_enter func136,ntmps136;go_wp2_with fail;exact bodyPost_ret (v:=.tuple #[Zn,I 8]) (by simp[results,results136,go_sem]) rfl ⟨rfl,rfl⟩
theorem sf (yb:Nat)(c:Cfg)(fv lv:Value)(lr:List Lr)(torn:ByteArray)(broken:Bool)(keep:Int)(w:World)(hR:bJ w yb c fv lr torn true broken keep lv):
 c_ 138 #[Px yb] w λe w'=>e=.returned (.tuple #[Zn,I 8])/\w'=w:=by
 have a:=hR.box.c 10 (.bool true);clear hR;go_enter func138,ntmps138;go_wp2_with fail;exact bodyPost_ret (v:=.tuple #[Zn,I 8]) (by simp[results,results138,go_sem]) rfl ⟨rfl,rfl⟩
theorem si (yb:Nat)(c:Cfg)(fv lv:Value)(lr:List Lr)(torn:ByteArray)(broken:Bool)(keep:Int)(w:World)(hR:bJ w yb c fv lr torn true broken keep lv):
 c_ 140 #[Px yb] w λe w'=>e=.returned (.tuple #[Zn,I 8])/\w'=w:=by
 have a:=hR.box.c 10 (.bool true);clear hR;go_enter func140,ntmps140;go_wp2_with fail;exact bodyPost_ret (v:=.tuple #[Zn,I 8]) (by simp[results,results140,go_sem]) rfl ⟨rfl,rfl⟩
theorem uj (yb:Nat)(c:Cfg)(fv lv:Value)(lr:List Lr)(torn:ByteArray)(broken:Bool)(keep:Int)(w:World)(hR:bJ w yb c fv lr torn true broken keep lv):
 c_ 92 #[Px yb] w λe w'=>e=.returned (.tuple #[Zn,I 8])/\w'=w:=by
 have a:=hR.box.c 10 (.bool true);clear hR;go_enter func92,ntmps92;go_wp2_with fail;exact bodyPost_ret (v:=.tuple #[Zn,I 8]) (by simp[results,results92,go_sem]) rfl ⟨rfl,rfl⟩
variable{c:Cfg}{b n:Nat}
theorem uo (yb:Nat)(c:Cfg)(fv lv:Value)(lr:List Lr)(torn:ByteArray)(broken:Bool)(keep:Int)(w:World)(hR:bJ w yb c fv lr torn true broken keep lv):
 c_ 42 #[Px yb] w λe w'=>e=.returned (I 8)/\w'=w:=by
 have a:=hR.box.c 10 (.bool true);clear hR;go_enter func42,ntmps42;go_wp2_with fail;go_ret;exact⟨rfl,rfl⟩
theorem zw (yb:Nat)(c:Cfg)(fv lv:Value)(lr:List Lr)(torn:ByteArray)(broken:Bool)(keep k:Int)(R:World->Prop)(w:World)(hR:bJ w yb c fv lr torn false broken keep lv)(hW:c_ 91 #[Px yb,.agg #[I 3,I 0,I 0,.bool false,Zn]] w λe w'=>e=.returned (I k)/\R w'):
 c_ 42 #[Px yb] w λe w'=>e=.returned (I k)/\R w':=by
 have d:=hR.box.c 10 (.bool false);clear hR;go_enter func42,ntmps42;go_wp2_with fail;go_fit hW;rintro e f ⟨rfl,a⟩;have b:=hd a;clear a hW;go_wp2_with fail;go_ret;exact⟨rfl,b.out⟩
theorem um (yb:Nat)(c:Cfg)(fv lv:Value)(lr:List Lr)(torn:ByteArray)(broken:Bool)(keep n:Int)(w:World)(hR:bJ w yb c fv lr torn true broken keep lv):
 c_ 47 #[Px yb,I n] w λe w'=>e=.returned (I 8)/\w'=w:=by
 have a:=hR.box.c 10 (.bool true);clear hR;go_enter func47,ntmps47;go_wp2_with fail;go_ret;exact⟨rfl,rfl⟩
theorem zx (yb:Nat)(c:Cfg)(fv lv:Value)(lr:List Lr)(torn:ByteArray)(broken:Bool)(keep n:Int)(w:World)(hR:bJ w yb c fv lr torn false broken keep lv)(hn:¬(1<=n/\n<=1000)):
 c_ 47 #[Px yb,I n] w λe w'=>e=.returned (I 7)/\Bl w w':=by
 have a:=hR.box.c 10 (.bool false);clear hR;by_cases h1:n<1
 ·go_enter func47,ntmps47;go_wp2_with fail;go_ret;exact⟨rfl,n_ _ _⟩
 have b:1000<n:=by omega
 clear hn;go_enter func47,ntmps47;go_wp2_with fail;go_ret;exact⟨rfl,n_ _ _⟩
theorem zy (yb:Nat)(c:Cfg)(fv lv:Value)(lr:List Lr)(torn:ByteArray)(broken:Bool)(keep n k:Int)(R:World->Prop)(w:World)(hR:bJ w yb c fv lr torn false broken keep lv)(hn:1<=n/\n<=1000)(hW:c_ 91 #[Px yb,.agg #[I 5,I 0,I n,.bool false,Zn]] w λe w'=>e=.returned (I k)/\R w'):
 c_ 47 #[Px yb,I n] w λe w'=>e=.returned (I k)/\R w':=by
 have d:=hR.box.c 10 (.bool false);have a:¬n<1:=by omega
 have f:¬1000<n:=by omega
 clear hR hn;go_enter func47,ntmps47;go_wp2_with fail;go_fit hW;rintro e g ⟨rfl,a⟩;have b:=hd a;clear a hW;go_wp2_with fail;go_ret;exact⟨rfl,b.out⟩
theorem qE (yb:Nat)(c:Cfg)(fv lv:Value)(lr:List Lr)(torn:ByteArray)(broken pass:Bool)(keep n:Int)(w:World)(hR:bJ w yb c fv lr torn true broken keep lv):
 c_ 45 #[Px yb,I n,.bool pass] w λe w'=>e=.returned (I 8)/\w'=w:=by
 have a:=hR.box.c 10 (.bool true);clear hR;go_enter func45,ntmps45;go_wp2_with fail;go_ret;exact⟨rfl,rfl⟩
def CK (w w':World)(e:Ending)(ex:Prop)(k:Int)(R:World->World->Prop):Prop:=
 (¬ex/\e=.returned (I 6)/\Bl w w')\/(ex/\e=.returned (I k)/\∃W,Bl w W/\R W w')
theorem sj {x:Sm}{num:Int}(h:dv c b n x):x.runsI num=true↔(cr x.job:Int)=num/\0<num:=by
 rw[show x.runsI num=true↔∃j,x.job=some j/\(j.num:Int)=num by unfold Sm.runsI;split<;>simp_all];cases hj:x.job with
 |none=>simp[cr];omega
 |some j=>
  have:=(h.job j hj).2.2.1;simp[cr];omega
theorem ul (yb:Nat)(c:Cfg)(fv lv:Value)(lr:List Lr)(torn:ByteArray)(broken pass:Bool)(keep num k:Int)(R:World->World->Prop)(w:World)(hR:bJ w yb c fv lr torn false broken keep lv)(g0:ByteArray->ByteArray)(n0:Nat)(hF:dw w c g0 n0 fv lr)(hc:c.Ok)(s:Ts)(hs:s=Ts.all c g0 (lr.map Prod.fst))(hW:(∃x∈s.segs,x.runsI num=true)->∀W,Bl w W->c_ 91 #[Px yb,.agg #[I 4,I 0,I num,.bool pass,Zn]] W λe w'=>e=.returned (I k)/\R W w'):
 c_ 45 #[Px yb,I num,.bool pass] w λe w'=>CK w w' e (∃x∈s.segs,x.runsI num=true) k R:=by
 have aa:=hR.box.c 10 (.bool false);have J:=ji hR hF hc;have H:=(hF.fits.inv hc).1;rw[<-hs] at J H;have M:=cY H;have S:=hd hW;obtain⟨p,F⟩:∃p:Prop,p=∃x∈s.segs,x.runsI num=true:=⟨_,rfl⟩;rw[<-F] at S ⊢;have P:Hid (p↔∃x∈s.segs,x.runsI num=true):=by rw[F];exact Iff.rfl
 have Z:=hd H;clear hR hF hs hW F H;go_enter func45,ntmps45;go_wp2_with fail;go_fit J;rintro e X ⟨⟨nb,rfl,z,h⟩,D⟩;have N:z.zs.length=s.segs.length:=by rw[<-h.ss,d_]
 obtain⟨a,d⟩:∃a,a=z.zs:=⟨_,rfl⟩;have l:=h.srow;obtain⟨V,sc,t⟩:=ag l;rw[t,<-d] at l;have O:X.cell? ⟨nb,11,none⟩=some (.slice V a.length sc):=by rw[d,<-t];exact h.box.cell (i:=11) rfl
 have o:=hd l;have q:=hd D;have B:Hid (∀y∈a,dv c s.begun s.now y.x):=λy n=>Z.out.sm y.x (by rw[<-h.ss,<-d];exact x_ n)
 have r:Hid (p↔∃y∈a,(cr y.x.job:Int)=num/\0<num):=by
  refine P.out.trans ?_;rw[<-h.ss,<-d];constructor
  ·rintro⟨x,hx,E⟩;obtain⟨y,n,rfl⟩:=q_.1 hx;exact⟨y,n,(sj (B.out y n)).1 E⟩
  rintro⟨y,n,E⟩;exact⟨y.x,x_ n,(sj (B.out y n)).2 E⟩
 have U:a.length<=8:=by rw[d];omega
 have af:=aP O;clear h J P D N l t d M;go_wp2_with fail;go_loopw [8] (λi wr=>∃j:Nat,j<=a.length/\i=I j/\wr=X/\Hid (∀m (h:m<j) (h':m<a.length),¬((cr a[m].x.job:Int)=num/\0<num))) (λi _=>a.length-(intOf i).toNat)
 case atStart=>exact⟨0,k_ _,rfl,rfl,λm h=>by omega⟩
 obtain⟨j,hj,rfl,rfl,b⟩:=hrel;by_cases hlj:j<a.length
 ·obtain⟨g,L⟩:∃g,V=some ⟨g,0,none⟩:=by
   rcases o.out.2 with ⟨_,h0⟩|⟨g,ab,ac,e,_⟩
   ·omega
   injection e with e1 _ _;exact⟨g,e1⟩
  subst L;obtain⟨G,v⟩:∃G,G=cr a[j].x.job:=⟨_,rfl⟩
  have d4:wr.cell? ⟨g,j*7+4,none⟩=some (I G):=by
   have:=(Sl.of_row o.out).cell (j:=j*7+4) (u:=I G) (by
    rw[aq cSg 7 (λ_=>rfl) a j 4 hlj (by decide),v];rfl)
   rwa [O_] at this
  have Q:=hd v;clear v;by_cases h1:(G:Int)=num
  ·by_cases h2:0<num
   ·have A:Hid p:=r.out.2 ⟨a[j],i_ hlj,by rw[<-Q.out];exact⟨h1,h2⟩⟩;have C:=S.out A.out wr q.out;subst h1;clear b r;go_wp2_with fail;go_fit C;rintro e w2 ⟨rfl,T⟩;have Y:=hd T;clear T C;go_wp2_with fail;go_ret;exact .inr ⟨A.out,rfl,wr,q.out,Y.out⟩
   have f:Hid (∀m (h:m<j+1) (h':m<a.length),¬((cr a[m].x.job:Int)=num/\0<num)):=λm _ _ h=>h2 h.2;have ae:=decide_eq_false h2;subst h1;clear b;go_wp2_with fail;exact⟨⟨j+1,hlj,by go_num,trivial,f.out⟩,by simp[intOf];omega⟩
  have f:Hid (∀m (h:m<j+1) (h':m<a.length),¬((cr a[m].x.job:Int)=num/\0<num)):=λm K hm' h=>by
   by_cases e:m=j
   ·subst e;exact h1 (by rw[Q.out];exact h.1)
   exact b.out m (by omega) hm' h
  have ad:=beq_false_of_ne h1;clear b;go_wp2_with fail;exact⟨⟨j+1,hlj,by go_num,trivial,f.out⟩,by simp[intOf];omega⟩
 obtain rfl:j=a.length:=by omega
 have f:Hid (¬p):=λF=>by
  obtain⟨y,n,E⟩:=r.out.1 F;obtain⟨m,K,rfl⟩:=Q_.1 n;exact b.out m K K E
 clear b;go_wp2_with fail;go_ret;exact .inl ⟨f.out,rfl,q.out⟩
end
end Go.Proofs.YtgamgomepdfgdaaGreat
