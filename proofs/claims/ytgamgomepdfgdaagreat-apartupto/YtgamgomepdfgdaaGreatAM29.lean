import Derived.Test.YtgamgomepdfgdaaGreatRows
import Derived.ProofKit
import Derived.SizedLaws
import Derived.Deep.Slices
import Derived.OpenShut
import Derived.JoinedCond
import Derived.Test.YtgamgomepdfgdaaGreatAM28
import Derived.Test.YtgamgomepdfgdaaGreatAM27
set_option maxRecDepth 100000
set_option maxHeartbeats 8000000
namespace Go.Proofs.YtgamgomepdfgdaaGreat
open Go.RowKit Go.Proofs.Tryz
theorem Ew (Q:Pq)(hQ:Q.Ok)(G:Nat->Prop)(σ:Sg)(N:Nat)(id lane:Int)(pass:Bool)(ea:Option Addr)(en ec:Nat)(w:World)(h:ar w Q G σ σ N)(hn:σ.rs.length<1048576):
 c_ 13 #[Px Q.wb,.agg #[I 3,I id,I lane,.bool pass,.slice ea en ec]] w λe w'=>bG w w' e Q G (σ.rs.length+1) N:=by
 have l:=h.widen (af w (.cells #[I 3,I id,I lane,.bool pass,.slice ea en ec] 29))
 obtain⟨τ,k,B,A,o⟩:∃τ k,τ.rs.length<=σ.rs.length+1/\(∀W,ar W Q (aX G w (w.alloc (.cells #[I 3,I id,I lane,.bool pass,.slice ea en ec] 29))) σ σ N->c_ 30 #[Px Q.xb] W λe w'=>e=.returned (I k)/\ar w' Q (aX G w (w.alloc (.cells #[I 3,I id,I lane,.bool pass,.slice ea en ec] 29))) τ σ N/\ax W w' (aX G w (w.alloc (.cells #[I 3,I id,I lane,.bool pass,.slice ea en ec] 29))))/\(∀W,ar W Q (aX G w (w.alloc (.cells #[I 3,I id,I lane,.bool pass,.slice ea en ec] 29))) τ σ N->c_ 42 #[Px Q.yb] W λe w'=>e=.returned (I k)/\ar w' Q (aX G w (w.alloc (.cells #[I 3,I id,I lane,.bool pass,.slice ea en ec] 29))) τ τ N/\ax W w' (aX G w (w.alloc (.cells #[I 3,I id,I lane,.bool pass,.slice ea en ec] 29)))):=by
  obtain⟨τ,k,S,H,J,K⟩:=l.both (a:=σ.pump) (h.okp.act hQ.c λ_=>kt) (λW X hX=>DO X Q.xb Q.c σ Q.n Q.g W hX h.okp hQ.c hn hQ.ss.n) (λW R hR=>CN R Q.yb Q.c σ Q.fv Q.ss W hR Q.g h.okr hQ.c hn);exact⟨τ,k,by rw[H];exact σ.act_len _ _,J,K⟩
 have p:Hid (Bl w (w.alloc (.cells #[I 3,I id,I lane,.bool pass,.slice ea en ec] 29))):=af _ _;have y:=Bx.new w #[I 3,I id,I lane,.bool pass,.slice ea en ec] 29;have D:Hid (aX G w (w.alloc (.cells #[I 3,I id,I lane,.bool pass,.slice ea en ec] 29)) Q.wb):=.inl h.gw;have E:Hid (∀W,ar W Q (aX G w (w.alloc (.cells #[I 3,I id,I lane,.bool pass,.slice ea en ec] 29))) τ τ N->ar W Q G τ τ N):=λW hW=>hW.fewer (λ_ h=>.inl h) h.gw;have L:=l.box.c 0 (Px Q.xb);have z:=l.box.c 1 (Px Q.yb);have P:=y.c 0 (I 3);have F:=hd B;have m:=A (w.alloc (.cells #[I 3,I id,I lane,.bool pass,.slice ea en ec] 29)) l;have x:=hd o;clear h B y A o l;unfold bG;go_enter func13,ntmps13;go_wp2_with fail;generalize w.alloc (.cells #[I 3,I id,I lane,.bool pass,.slice ea en ec] 29)=M at *;generalize Q.wb=V at *;generalize Q.xb=Y at *;generalize Q.yb=Z at *;generalize d:aX G w M=C at *;have r:=hd d;clear P d;go_fit m;rintro e O ⟨rfl,i,b⟩;have s:=hd b;have o:=x.out O i;have T:=b.cell D.out z;clear m x i b L z;go_wp2_with fail;go_fit o;rintro e U ⟨rfl,j,f⟩;have u:=hd j;have t:=hd (s.out.trans f);clear o j f;go_wp2_with fail;go_ret;have v:∀q,G q->C q:=λq hq=>by rw[<-r.out];exact .inl hq
 exact⟨rfl,⟨τ,E.out _ u.out,F.out⟩,(ax.of_below p.out).trans (t.out.mono v)⟩
theorem Ey (Q:Pq)(hQ:Q.Ok)(G:Nat->Prop)(σ:Sg)(N:Nat)(id lane:Int)(pass:Bool)(ea:Option Addr)(en ec:Nat)(w:World)(h:ar w Q G σ σ N)(hn:σ.rs.length<1048576):
 c_ 13 #[Px Q.wb,.agg #[I 5,I id,I lane,.bool pass,.slice ea en ec]] w λe w'=>bG w w' e Q G (σ.rs.length+1) N:=by
 have s:=h.widen (af w (.cells #[I 5,I id,I lane,.bool pass,.slice ea en ec] 29))
 obtain⟨τ,k,U,T,x⟩:∃τ k,τ.rs.length<=σ.rs.length+1/\(∀W,ar W Q (aX G w (w.alloc (.cells #[I 5,I id,I lane,.bool pass,.slice ea en ec] 29))) σ σ N->c_ 44 #[Px Q.xb,I id,.bool pass] W λe w'=>e=.returned (I k)/\ar w' Q (aX G w (w.alloc (.cells #[I 5,I id,I lane,.bool pass,.slice ea en ec] 29))) τ σ N/\ax W w' (aX G w (w.alloc (.cells #[I 5,I id,I lane,.bool pass,.slice ea en ec] 29))))/\(∀W,ar W Q (aX G w (w.alloc (.cells #[I 5,I id,I lane,.bool pass,.slice ea en ec] 29))) τ σ N->c_ 45 #[Px Q.yb,I id,.bool pass] W λe w'=>e=.returned (I k)/\ar w' Q (aX G w (w.alloc (.cells #[I 5,I id,I lane,.bool pass,.slice ea en ec] 29))) τ τ N/\ax W w' (aX G w (w.alloc (.cells #[I 5,I id,I lane,.bool pass,.slice ea en ec] 29)))):=by
  obtain⟨l,H⟩:=vx (Ts.all Q.c Q.g σ.rs) id;obtain⟨τ,k,a1,a2,a3,a4⟩:=s.both (a:=σ.answer id pass l) (h.okp.act hQ.c λh0=>(je H (h.okp.fits.inv hQ.c).1 (by have:=(h.okp.fits.inv hQ.c).2.begun;omega) h0).1) (λW X hX=>vy X Q.xb Q.c σ Q.n Q.g id l pass W hX h.okp hQ.c hn H) (λW R hR=>sx R Q.yb Q.c σ Q.fv Q.ss id l pass W hR Q.g Q.n hQ.ss h.okr hQ.c hn H);exact⟨τ,k,by rw[a2];exact σ.act_len _ _,a3,a4⟩
 have A:Hid (Bl w (w.alloc (.cells #[I 5,I id,I lane,.bool pass,.slice ea en ec] 29))):=af _ _;have v:=Bx.new w #[I 5,I id,I lane,.bool pass,.slice ea en ec] 29;have z:Hid (aX G w (w.alloc (.cells #[I 5,I id,I lane,.bool pass,.slice ea en ec] 29)) Q.wb):=.inl h.gw;have m:Hid (aX G w (w.alloc (.cells #[I 5,I id,I lane,.bool pass,.slice ea en ec] 29)) w.heap.size):=.inr ⟨b_ _,by simp⟩;have Y:Hid (∀W,ar W Q (aX G w (w.alloc (.cells #[I 5,I id,I lane,.bool pass,.slice ea en ec] 29))) τ τ N->ar W Q G τ τ N):=λW hW=>hW.fewer (λ_ h=>.inl h) h.gw;have P:=s.box.c 0 (Px Q.xb);have S:=s.box.c 1 (Px Q.yb);have x0:=v.c 0 (I 5);have L:=v.c 1 (I id);have M:=v.c 3 (.bool pass);have Z:=hd U;have u:=T (w.alloc (.cells #[I 5,I id,I lane,.bool pass,.slice ea en ec] 29)).drew (s.later ⟨rfl,rfl,rfl,b_ _,λ_ _=>rfl⟩);have O:=hd x;clear h hQ U v T x s;unfold bG;go_enter func13,ntmps13;go_wp2_with fail;generalize w.alloc (.cells #[I 5,I id,I lane,.bool pass,.slice ea en ec] 29)=y at *;generalize Q.wb=V at *;generalize Q.xb=xb at *;generalize Q.yb=yb at *;generalize p:aX G w y=o at *;have B:=hd p;clear x0 p;go_cut [5] from 7 (λt wz=>t=I k/\ar wz Q o τ σ N/\ax y wz o)
 case first=>
  go_region_held_law (λw'=>w'.cell? ⟨V,0,none⟩=some (Px xb)/\w'.cell? ⟨w.heap.size,1,none⟩=some (I id)/\w'.cell? ⟨w.heap.size,3,none⟩=some (.bool pass)) (go_keep) ((go_at_call 44;refine u.mono ?_;rintro e K ⟨rfl,f,b⟩;have F:=b.cell z.out P;have D:=b.cell m.out L;have E:=b.cell m.out M;have j:=hd f;have i:Hid (ax y K o):=ai.drew b;clear f b))
  all_goals
   go_wp2_with fail;go_meet
   case rel=>exact⟨rfl,j.out,i.out⟩
 obtain⟨rfl,r,d⟩:=hcut;rename World=>wz;have C:=hd d;have x:=O.out wz.drew (r.later ⟨rfl,rfl,rfl,b_ _,λ_ _=>rfl⟩);have d1:=d.cell z.out S;have e1:=d.cell m.out L;have e3:=d.cell m.out M;clear u O r d P S L M;go_wp2_with fail;go_region_held_law (λw'=>w'.cell? ⟨V,1,none⟩=some (Px yb)/\w'.cell? ⟨w.heap.size,1,none⟩=some (I id)/\w'.cell? ⟨w.heap.size,3,none⟩=some (.bool pass)) (go_keep) ((go_at_call 45;refine x.mono ?_;rintro e K ⟨rfl,f,b⟩;have F:=b.cell z.out d1;have D:=b.cell m.out e1;have E:=b.cell m.out e3;have j:=hd f;have i:Hid (ax y K o):=C.out.trans (ai.drew b);clear f b))
 all_goals
  go_wp2_with fail;go_ret;have J:∀q,G q->o q:=λq hq=>by rw[<-B.out];exact .inl hq
  exact⟨rfl,⟨τ,Y.out _ j.out,Z.out⟩,(ax.of_below A.out).trans (i.out.mono J)⟩
theorem Ex (Q:Pq)(hQ:Q.Ok)(G:Nat->Prop)(σ:Sg)(N:Nat)(id lane:Int)(pass:Bool)(ea:Option Addr)(en ec:Nat)(w:World)(h:ar w Q G σ σ N)(hn:σ.rs.length<1048576):
 c_ 13 #[Px Q.wb,.agg #[I 6,I id,I lane,.bool pass,.slice ea en ec]] w λe w'=>bG w w' e Q G (σ.rs.length+1) N:=by
 have r:=h.widen (af w (.cells #[I 6,I id,I lane,.bool pass,.slice ea en ec] 29))
 obtain⟨τ,k,S,P,u⟩:∃τ k,τ.rs.length<=σ.rs.length+1/\(∀W,ar W Q (aX G w (w.alloc (.cells #[I 6,I id,I lane,.bool pass,.slice ea en ec] 29))) σ σ N->c_ 46 #[Px Q.xb,I id] W λe w'=>e=.returned (I k)/\ar w' Q (aX G w (w.alloc (.cells #[I 6,I id,I lane,.bool pass,.slice ea en ec] 29))) τ σ N/\ax W w' (aX G w (w.alloc (.cells #[I 6,I id,I lane,.bool pass,.slice ea en ec] 29))))/\(∀W,ar W Q (aX G w (w.alloc (.cells #[I 6,I id,I lane,.bool pass,.slice ea en ec] 29))) τ σ N->c_ 47 #[Px Q.yb,I id] W λe w'=>e=.returned (I k)/\ar w' Q (aX G w (w.alloc (.cells #[I 6,I id,I lane,.bool pass,.slice ea en ec] 29))) τ τ N/\ax W w' (aX G w (w.alloc (.cells #[I 6,I id,I lane,.bool pass,.slice ea en ec] 29)))):=by
  obtain⟨l,F⟩:=yM id;obtain⟨τ,k,a1,Y,Z,a4⟩:=r.both (a:=σ.tick id l) (h.okp.act hQ.c λh0=>(iR F h0).1) (λW X hX=>DQ X Q.xb Q.c σ Q.n Q.g id l W hX h.okp hQ.c hn F) (λW R hR=>CQ R Q.yb Q.c σ Q.fv Q.ss id l W hR Q.g h.okr hQ.c hn F);exact⟨τ,k,by rw[Y];exact σ.act_len _ _,Z,a4⟩
 have z:Hid (Bl w (w.alloc (.cells #[I 6,I id,I lane,.bool pass,.slice ea en ec] 29))):=af _ _;have C:=Bx.new w #[I 6,I id,I lane,.bool pass,.slice ea en ec] 29;have y:Hid (aX G w (w.alloc (.cells #[I 6,I id,I lane,.bool pass,.slice ea en ec] 29)) Q.wb):=.inl h.gw;have x:Hid (aX G w (w.alloc (.cells #[I 6,I id,I lane,.bool pass,.slice ea en ec] 29)) w.heap.size):=.inr ⟨b_ _,by simp⟩;have U:Hid (∀W,ar W Q (aX G w (w.alloc (.cells #[I 6,I id,I lane,.bool pass,.slice ea en ec] 29))) τ τ N->ar W Q G τ τ N):=λW hW=>hW.fewer (λ_ h=>.inl h) h.gw;have M:=r.box.c 0 (Px Q.xb);have O:=r.box.c 1 (Px Q.yb);have x0:=C.c 0 (I 6);have K:=C.c 1 (I id);have V:=hd S;have s:=P (w.alloc (.cells #[I 6,I id,I lane,.bool pass,.slice ea en ec] 29)).drew (r.later ⟨rfl,rfl,rfl,b_ _,λ_ _=>rfl⟩);have L:=hd u;clear h hQ S C P u r;unfold bG;go_enter func13,ntmps13;go_wp2_with fail;generalize w.alloc (.cells #[I 6,I id,I lane,.bool pass,.slice ea en ec] 29)=v at *;generalize Q.wb=T at *;generalize Q.xb=xb at *;generalize Q.yb=yb at *;generalize o:aX G w v=m at *;have A:=hd o;clear x0 o;go_cut [5] from 7 (λt wz=>t=I k/\ar wz Q m τ σ N/\ax v wz m)
 case first=>
  go_region_held_law (λw'=>w'.cell? ⟨T,0,none⟩=some (Px xb)/\w'.cell? ⟨w.heap.size,1,none⟩=some (I id)) (go_keep) ((go_at_call 46;refine s.mono ?_;rintro e J ⟨rfl,d,b⟩;have E:=b.cell y.out M;have D:=b.cell x.out K;have j:=hd d;have i:Hid (ax v J m):=ai.drew b;clear d b))
  all_goals
   go_wp2_with fail;go_meet
   case rel=>exact⟨rfl,j.out,i.out⟩
 obtain⟨rfl,p,f⟩:=hcut;rename World=>wz;have B:=hd f;have u:=L.out wz.drew (p.later ⟨rfl,rfl,rfl,b_ _,λ_ _=>rfl⟩);have d1:=f.cell y.out O;have e1:=f.cell x.out K;clear s L p f M O K;go_wp2_with fail;go_region_held_law (λw'=>w'.cell? ⟨T,1,none⟩=some (Px yb)/\w'.cell? ⟨w.heap.size,1,none⟩=some (I id)) (go_keep) ((go_at_call 47;refine u.mono ?_;rintro e J ⟨rfl,d,b⟩;have E:=b.cell y.out d1;have D:=b.cell x.out e1;have j:=hd d;have i:Hid (ax v J m):=B.out.trans (ai.drew b);clear d b))
 all_goals
  go_wp2_with fail;go_ret;have H:∀q,G q->m q:=λq hq=>by rw[<-A.out];exact .inl hq
  exact⟨rfl,⟨τ,U.out _ j.out,V.out⟩,(ax.of_below z.out).trans (i.out.mono H)⟩
theorem EA (Q:Pq)(hQ:Q.Ok)(G:Nat->Prop)(σ:Sg)(N:Nat)(id lane:Int)(pass:Bool)(es:List Ed)(ea:Option Addr)(ec:Nat)(w:World)(h:ar w Q G σ σ N)(hn:σ.rs.length<1048576)(hE:aH w (.slice ea es.length ec) es)(hG:0<es.length->∀b,(Value.slice ea es.length ec).ownBlock=some b->G b)(hen:(es.length+80)*48<=140737488355328):
 c_ 13 #[Px Q.wb,.agg #[I 1,I id,I lane,.bool pass,.slice ea es.length ec]] w λe w'=>bG w w' e Q G (σ.rs.length+1) N:=by
 obtain⟨a,l⟩:=A9 Q.c (Ts.all Q.c Q.g σ.rs) id lane es;have f:=af w (.cells #[I 1,I id,I lane,.bool pass,.slice ea es.length ec] 29);have k:=Bw Q hQ G σ N 1 id lane a pass es ea ec _ (h.later f) hn l (hE.later f) hG hen (by omega);have o:Hid ((σ.sub id lane es a).2.rs.length<=σ.rs.length+1):=σ.act_len _ _;have d:=Bx.new w #[I 1,I id,I lane,.bool pass,.slice ea es.length ec] 29;have q:=d.c 0 (I 1);have r:=d.c 1 (I id);have s:=d.c 2 (I lane);have t:=d.c 3 (.bool pass);have u:=d.c 4 (.slice ea es.length ec);have m:=hd f;clear h hQ d hE hG f l;unfold bG;generalize (σ.sub id lane es a).2=τ at *;go_enter func13,ntmps13;go_wp2_with fail;generalize w.alloc (.cells #[I 1,I id,I lane,.bool pass,.slice ea es.length ec] 29)=v at *;go_fit k;rintro e x ⟨rfl,j,i⟩;have p:=hd j;have n:=hd ((ax.of_below m.out).trans i);clear j i k q r s t u;go_wp2_with fail;go_ret;exact⟨rfl,⟨τ,p.out,o.out⟩,n.out⟩
theorem Ez (Q:Pq)(hQ:Q.Ok)(G:Nat->Prop)(σ:Sg)(N:Nat)(id lane:Int)(pass:Bool)(ea:Option Addr)(en ec:Nat)(w:World)(h:ar w Q G σ σ N)(hn:σ.rs.length<1048576):
 c_ 13 #[Px Q.wb,.agg #[I 8,I id,I lane,.bool pass,.slice ea en ec]] w λe w'=>bG w w' e Q G (σ.rs.length+1) N:=by
 obtain⟨a,k⟩:=A7 (Ts.all Q.c Q.g σ.rs) (if id=0 then (σ.poll Q.c Q.g).1 else id);have d:=af w (.cells #[I 8,I id,I lane,.bool pass,.slice ea en ec] 29);have j:=Et Q hQ G σ N id _ a _ (h.later d) hn rfl k;have n:Hid ((σ.ack (if id=0 then (σ.poll Q.c Q.g).1 else id) a).2.rs.length<=σ.rs.length+1):=σ.act_len _ _;have b:=Bx.new w #[I 8,I id,I lane,.bool pass,.slice ea en ec] 29;have p:=b.c 0 (I 8);have q:=b.c 1 (I id);have l:=hd d;clear h hQ b d k;unfold bG;generalize (σ.ack (if id=0 then (σ.poll Q.c Q.g).1 else id) a).2=τ at *;go_enter func13,ntmps13;go_wp2_with fail;generalize w.alloc (.cells #[I 8,I id,I lane,.bool pass,.slice ea en ec] 29)=r at *;go_fit j;rintro e s ⟨rfl,i,f⟩;have o:=hd i;have m:=hd ((ax.of_below l.out).trans f);clear i f j p q;go_wp2_with fail;go_ret;exact⟨rfl,⟨τ,o.out,n.out⟩,m.out⟩
section
variable{N n:Nat}{G:Nat->Prop}{Q:Pq}{σ:Sg}{v:Value}{w:World}
theorem BA (c:Int)(n:Nat)(hc:-9223372036854775808<=c/\c<9223372036854775808)(h0:0<n)(hn:n<1099511627776)(w:World):
 c_ 26 #[I c,I n] w λe w'=>(∃j:Nat,j<n/\e=.returned (I j))/\w'=w:=by
 obtain⟨a,b⟩:=hc;by_cases hneg:c<0
 ·go_enter func26,ntmps26;go_wp2_with fail;go_ret;refine⟨⟨(-(c+1)).toNat%n,Nat.mod_lt _ h0,?_⟩,rfl⟩
  have e:-((c+1).tmod n)=(((-(c+1)).toNat%n:Nat):Int):=by
   rw[<-Int.neg_tmod,Int.tmod_eq_emod_of_nonneg (by omega),Int.natCast_emod,Int.toNat_of_nonneg (by omega)]
  show Ending.returned (I (-((c+1).tmod n)))=_;rw[e]
 go_enter func26,ntmps26;go_wp2_with fail;go_ret;refine⟨⟨c.toNat%n,Nat.mod_lt _ h0,?_⟩,rfl⟩
 have e:c%n=((c.toNat%n:Nat):Int):=by
  rw[Int.natCast_emod,Int.toNat_of_nonneg (by omega)]
 show Ending.returned (I (c%n))=_;rw[e]
theorem ar.answers (h:ar w Q G σ σ N)(hQ:Q.Ok)(hn:σ.rs.length<1048576)(num:Int)(pass:Bool):∃τ k,τ.rs.length<=σ.rs.length+1/\(∀W,ar W Q G σ σ N->c_ 44 #[Px Q.xb,I num,.bool pass] W λe w'=>e=.returned (I k)/\ar w' Q G τ σ N/\ax W w' G)/\(∀W,ar W Q G τ σ N->c_ 45 #[Px Q.yb,I num,.bool pass] W λe w'=>e=.returned (I k)/\ar w' Q G τ τ N/\ax W w' G):=by
 obtain⟨b,d⟩:=vx (Ts.all Q.c Q.g σ.rs) num;obtain⟨τ,k,l,f,i,j⟩:=h.both (a:=σ.answer num pass b) (h.okp.act hQ.c λh0=>(je d (h.okp.fits.inv hQ.c).1 (by have:=(h.okp.fits.inv hQ.c).2.begun;omega) h0).1) (λW X hX=>vy X Q.xb Q.c σ Q.n Q.g num b pass W hX h.okp hQ.c hn d) (λW R hR=>sx R Q.yb Q.c σ Q.fv Q.ss num b pass W hR Q.g Q.n hQ.ss h.okr hQ.c hn d);exact⟨τ,k,by rw[f];exact σ.act_len _ _,i,j⟩
theorem zZ {l:List Jv}(h:Sl w 124 4 v n (l.flatMap cJv)){i:Nat}(hi:i<l.length)(hn:0<n):∃g off cap,v=s_ g off n cap/\w.cell? ⟨g,off+i*4,none⟩=some (I l[i].1.1):=by
 obtain⟨g,off,cap,rfl,_⟩:=h.addr hn;exact⟨g,off,cap,rfl,h.cell (j:=i*4) (by have:=aq cJv 4 (λ_=>rfl) l i 0 hi (by decide);exact this)⟩
theorem Bz (Q:Pq)(hQ:Q.Ok)(G:Nat->Prop)(σ:Sg)(N:Nat)(kind id lane:Int)(pass:Bool)(ea:Option Addr)(en ec:Nat)(w:World)(h:ar w Q G σ σ N)(hn:σ.rs.length<1048576)(hid:-9223372036854775808<=id/\id<9223372036854775808):
 c_ 43 #[Px Q.wb,.agg #[I kind,I id,I lane,.bool pass,.slice ea en ec]] w λe w'=>bG w w' e Q G (σ.rs.length+1) N:=by
 have u:=af w (.cells #[I kind,I id,I lane,.bool pass,.slice ea en ec] 29);have A:=h.widen u;have Z:=Bx.new w #[I kind,I id,I lane,.bool pass,.slice ea en ec] 29;have x1:=Z.c 1 (I id);have x3:=Z.c 3 (.bool pass);have b0:=A.box.c 0 (Px Q.xb);have b1:=A.box.c 1 (Px Q.yb)
 have q:(Ts.all Q.c Q.g σ.rs).jobs.length<=8:=by
  have hI:=(h.okp.fits.inv hQ.c).1;have h1:=hI.tr;have h2:=dP hI.sm;have h3:=dK (Ts.all Q.c Q.g σ.rs).segs [];have h4:=jO (λy:Jbt=>y.1) (bR (Ts.all Q.c Q.g σ.rs).segs []) ((Ts.all Q.c Q.g σ.rs).begun+1);show (rkG _ _ _).length<=_;omega
 have T:Hid (aX G w (w.alloc (.cells #[I kind,I id,I lane,.bool pass,.slice ea en ec] 29)) Q.wb):=.inl h.gw;have S:Hid (aX G w (w.alloc (.cells #[I kind,I id,I lane,.bool pass,.slice ea en ec] 29)) w.heap.size):=.inr ⟨b_ _,by simp⟩;have C:Hid (∀W ρ,ar W Q (aX G w (w.alloc (.cells #[I kind,I id,I lane,.bool pass,.slice ea en ec] 29))) ρ ρ N->ar W Q G ρ ρ N):=λW ρ hW=>hW.fewer (λ_ h=>.inl h) h.gw;have HA:Hid (∀m:Int,∃τ k,τ.rs.length<=σ.rs.length+1/\(∀W,ar W Q (aX G w (w.alloc (.cells #[I kind,I id,I lane,.bool pass,.slice ea en ec] 29))) σ σ N->c_ 44 #[Px Q.xb,I m,.bool pass] W λe w'=>e=.returned (I k)/\ar w' Q (aX G w (w.alloc (.cells #[I kind,I id,I lane,.bool pass,.slice ea en ec] 29))) τ σ N/\ax W w' (aX G w (w.alloc (.cells #[I kind,I id,I lane,.bool pass,.slice ea en ec] 29))))/\(∀W,ar W Q (aX G w (w.alloc (.cells #[I kind,I id,I lane,.bool pass,.slice ea en ec] 29))) τ σ N->c_ 45 #[Px Q.yb,I m,.bool pass] W λe w'=>e=.returned (I k)/\ar w' Q (aX G w (w.alloc (.cells #[I kind,I id,I lane,.bool pass,.slice ea en ec] 29))) τ τ N/\ax W w' (aX G w (w.alloc (.cells #[I kind,I id,I lane,.bool pass,.slice ea en ec] 29))))):=λm=>A.answers hQ hn m pass;have O:=A.askR λR hR=>zE R Q.yb Q.c σ Q.fv Q.ss _ hR Q.g Q.n hQ.ss h.okr hQ.c hn;have HW:=hd A;have U:=hd u;clear h hQ Z A u;unfold qG at O;unfold bG;generalize (Ts.all Q.c Q.g σ.rs).jobs=jl at *;have F:=hd q;clear q;generalize ad:Q.wb=wb at *;generalize ag:Q.xb=xb at *;generalize ah:Q.yb=yb at *;clear ad ag ah;go_enter func43,ntmps43;go_wp2_with fail;generalize ac:w.alloc (.cells #[I kind,I id,I lane,.bool pass,.slice ea en ec] 29)=w0 at *;generalize H:aX G w w0=B at *;have V:Hid (∀k,G k->B k):=λk hk=>by rw[<-H];exact .inl hk
 clear H ac;go_fit O;rintro e w1 ⟨hx,d⟩;have E:=hd (HW.out.later d);have D:Hid (ax w w1 G):=(ax.of_below U.out).trans (ax.of_below d);have c0:=ae d b0;have c1:=ae d b1;have a1:=ae d x1;have a3:=ae d x3;clear d O b0 b1 x1 x3
 have x:(∃(v:Value) (o:List Jv) (n:Nat),0<n/\o.length=n/\n<=8/\e=.returned (.tuple #[v,I 0])/\Sl w1 124 4 v n (o.flatMap cJv))\/(∃a c k,e=.returned (.tuple #[.slice a 0 c,I k])):=by
  rcases hx with ⟨_,v,o,rfl,hT⟩|⟨_,rfl⟩
  ·have hl:o.length=jl.length:=by rw[<-hT.fst,d_]
   rcases Nat.eq_zero_or_pos o.length with e0|e0
   ·obtain⟨a,c,rfl⟩:=hT.row.form;rw[e0];exact .inr ⟨a,c,_,rfl⟩
   exact .inl ⟨v,o,o.length,e0,rfl,by have:=F.out;omega,rfl,hT.row⟩
  exact .inr ⟨_,_,_,rfl⟩
 clear hx;rcases x with ⟨v,o,n,z,K,ao,rfl,l⟩|⟨a,c,k,rfl⟩
 ·obtain⟨ga,al,ak,rfl,_⟩:=l.addr z;have HR:=hd l;have X:=hd K;have L:=BA id n hid z (by omega) w1;have hz:((n:Int)==0)=false:=by simp;omega
  clear l K;go_wp2_with fail;go_fit L;rintro e P ⟨⟨j,hj,rfl⟩,rfl⟩;obtain⟨g',an,aj,e',am⟩:=zZ HR.out (i:=j) (by rw[X.out];exact hj) z;cases e'
  obtain⟨τ,k,hτ,hX,hY⟩:=HA.out (o[j]'(by rw[X.out];exact hj)).1.1;generalize (((o[j]'(by rw[X.out];exact hj)).1.1:Nat):Int)=m at *;have M:=hX P.drew (E.out.later ⟨rfl,rfl,rfl,b_ _,λ_ _=>rfl⟩);have HY:=hd hY;have Hτ:=hd hτ;clear hX hY hτ L HA;go_wp2_with fail;go_cut [8] from 38 (λt wz=>t=I k/\ar wz Q B τ σ N/\ax P wz B)
  case first=>
   go_region_held_law (λw'=>w'.cell? ⟨wb,0,none⟩=some (Px xb)/\w'.cell? ⟨w.heap.size,3,none⟩=some (.bool pass)) (go_keep) ((go_at_call 44;refine M.mono ?_;rintro e w3 ⟨rfl,f,b⟩;have ab:=b.cell T.out c0;have aa:=b.cell S.out a3;have s:=hd f;have r:Hid (ax P w3 B):=ai.drew b;clear f b))
   all_goals
    go_wp2_with fail;go_meet
    case rel=>exact⟨rfl,s.out,r.out⟩
  obtain⟨rfl,J,p⟩:=hcut;rename World=>wz;have Y:=hd p;have O:=HY.out wz.drew (J.later ⟨rfl,rfl,rfl,b_ _,λ_ _=>rfl⟩);have d1:=p.cell T.out c1;have e3:=p.cell S.out a3;clear M HY J p c0 c1 a1 a3;go_wp2_with fail;go_region_held_law (λw'=>w'.cell? ⟨wb,1,none⟩=some (Px yb)/\w'.cell? ⟨w.heap.size,3,none⟩=some (.bool pass)) (go_keep) ((go_at_call 45;refine O.mono ?_;rintro e w3 ⟨rfl,f,b⟩;have ab:=b.cell T.out d1;have aa:=b.cell S.out e3;have s:=hd f;have r:Hid (ax P w3 B):=Y.out.trans (ai.drew b);clear f b))
  all_goals
   go_wp2_with fail;go_ret;exact⟨rfl,⟨τ,C.out _ _ s.out,Hτ.out⟩,D.out.trans (r.out.mono V.out)⟩
 go_wp2_with fail;go_ret;exact⟨rfl,⟨σ,C.out _ _ E.out,Nat.le_succ _⟩,D.out⟩
theorem EB (Q:Pq)(hQ:Q.Ok)(G:Nat->Prop)(σ:Sg)(N:Nat)(id lane:Int)(pass:Bool)(ea:Option Addr)(en ec:Nat)(w:World)(h:ar w Q G σ σ N)(hn:σ.rs.length<1048576)(hid:-9223372036854775808<=id/\id<9223372036854775808):
 c_ 13 #[Px Q.wb,.agg #[I 4,I id,I lane,.bool pass,.slice ea en ec]] w λe w'=>bG w w' e Q G (σ.rs.length+1) N:=by
 have d:=af w (.cells #[I 4,I id,I lane,.bool pass,.slice ea en ec] 29);have b:=Bz Q hQ G σ N 4 id lane pass ea en ec _ (h.later d) hn hid;have a:=Bx.new w #[I 4,I id,I lane,.bool pass,.slice ea en ec] 29;have n:=a.c 0 (I 4);have o:=a.c 1 (I id);have p:=a.c 2 (I lane);have q:=a.c 3 (.bool pass);have r:=a.c 4 (.slice ea en ec);have j:=hd d;clear h hQ a d;unfold bG at b ⊢;go_enter func13,ntmps13;go_wp2_with fail;generalize w.alloc (.cells #[I 4,I id,I lane,.bool pass,.slice ea en ec] 29)=s at *;go_fit b;rintro e t ⟨rfl,⟨τ,i,g⟩,f⟩;have m:=hd i;have l:=hd g;have k:=hd ((ax.of_below j.out).trans f);clear i f b g n o p q r;go_wp2_with fail;go_ret;exact⟨rfl,⟨τ,m.out,l.out⟩,k.out⟩
variable{N':Nat}{w':World}
theorem EC (Q:Pq)(hQ:Q.Ok)(G:Nat->Prop)(σ:Sg)(N:Nat)(kind id lane:Int)(pass:Bool)(ea:Option Addr)(en ec:Nat)(w:World)(h:ar w Q G σ σ N)(hn:σ.rs.length<200100)(hN:N<549000000000)(hk:kind≠1/\kind≠2/\kind≠3/\kind≠4/\kind≠5/\kind≠6/\kind≠8/\kind≠9/\kind≠10/\kind≠11):
 c_ 13 #[Px Q.wb,.agg #[I kind,I id,I lane,.bool pass,.slice ea en ec]] w λe w'=>bG w w' e Q G (σ.rs.length+1) (N+900000):=by
 have b:=af w (.cells #[I kind,I id,I lane,.bool pass,.slice ea en ec] 29);have a:=BT Q hQ G σ N kind _ (h.later b) hn hN;have g:=Bx.new w #[I kind,I id,I lane,.bool pass,.slice ea en ec] 29;have y:=g.c 0 (I kind);have k:=hd b;clear h hQ g b;unfold bG;unfold eC at a;obtain⟨p,q,r,s,t,u,v,x,d,f⟩:=hk;have z:(kind==1)=false:=by simpa using p
 have A:(kind==2)=false:=by simpa using q
 have B:(kind==3)=false:=by simpa using r
 have C:(kind==4)=false:=by simpa using s
 have D:(kind==5)=false:=by simpa using t
 have E:(kind==6)=false:=by simpa using u
 have F:(kind==8)=false:=by simpa using v
 have H:(kind==9)=false:=by simpa using x
 have n:(kind==10)=false:=by simpa using d
 have o:(kind==11)=false:=by simpa using f
 go_enter func13,ntmps13;go_wp2_with fail;go_fit a;rintro e J ⟨rfl,j,i⟩;have m:=hd j;have l:=hd ((ax.of_below k.out).trans i);clear j i a y;go_wp2_with fail;go_ret;exact⟨rfl,⟨σ,m.out,Nat.le_succ _⟩,l.out⟩
theorem bG.more {e:Ending}(h:bG w w' e Q G n N)(hN:N<=N'):bG w w' e Q G n N':=by
 obtain⟨a,⟨σ,c,d⟩,b⟩:=h;exact⟨a,⟨σ,c.more hN,d⟩,b⟩
theorem ED (Q:Pq)(hQ:Q.Ok)(G:Nat->Prop)(σ:Sg)(N:Nat)(kind id lane:Int)(pass:Bool)(es:List Ed)(ea:Option Addr)(ec:Nat)(w:World)(h:ar w Q G σ σ N)(hn:σ.rs.length<200100)(hN:N<549000000000)(hid:-9223372036854775808<=id/\id<9223372036854775808)(hE:aH w (.slice ea es.length ec) es)(hG:0<es.length->∀b,(Value.slice ea es.length ec).ownBlock=some b->G b)(hen:(es.length+80)*48<=140737488355328):
 c_ 13 #[Px Q.wb,.agg #[I kind,I id,I lane,.bool pass,.slice ea es.length ec]] w λe w'=>bG w w' e Q G (σ.rs.length+1) (N+900000):=by
 have a:σ.rs.length<1048576:=by omega
 have c:kind=1\/kind=2\/kind=3\/kind=4\/kind=5\/kind=6\/kind=8\/kind=9\/kind=10\/kind=11\/(kind≠1/\kind≠2/\kind≠3/\kind≠4/\kind≠5/\kind≠6/\kind≠8/\kind≠9/\kind≠10/\kind≠11):=by omega
 rcases c with rfl|rfl|rfl|rfl|rfl|rfl|rfl|rfl|rfl|rfl|c
 ·exact(EA Q hQ G σ N id lane pass es ea ec w h a hE hG hen).mono λe w' h=>h.more (by omega)
 ·exact(Eu Q hQ G σ N id lane pass ea es.length ec w h a).mono λe w' h=>h.more (by omega)
 ·exact(Ew Q hQ G σ N id lane pass ea es.length ec w h a).mono λe w' h=>h.more (by omega)
 ·exact(EB Q hQ G σ N id lane pass ea es.length ec w h a hid).mono λe w' h=>h.more (by omega)
 ·exact(Ey Q hQ G σ N id lane pass ea es.length ec w h a).mono λe w' h=>h.more (by omega)
 ·exact(Ex Q hQ G σ N id lane pass ea es.length ec w h a).mono λe w' h=>h.more (by omega)
 ·exact(Ez Q hQ G σ N id lane pass ea es.length ec w h a).mono λe w' h=>h.more (by omega)
 ·exact(Ev Q G σ N id lane pass ea es.length ec w h).mono λe w' h=>h.more (by omega)
 ·exact(Da Q G σ N id lane pass ea es.length ec w h).mono λe w' h=>h.more (by omega)
 ·exact(Db Q hQ G σ N id lane pass ea es.length ec w h a).mono λe w' h=>h.more (by omega)
 exact EC Q hQ G σ N kind id lane pass ea es.length ec w h hn hN c
variable{S:Nat->Prop}{τ:Sg}
theorem ar.touch (h:ar w Q G σ τ N)(hO:ai w w' S)(hS:∀k,S k->G k/\k≠Q.wb):ar w' Q G σ τ N:=by
 obtain⟨X,R,K,h⟩:=h;have a:=hO.size;exact⟨X,R,K,h.box.kept hO λe=>(hS _ e).2 rfl,h.p.only hO λk hX e=>(h.gg k (hS k e).1).1 hX,h.r.only hO λk hR e=>(h.gg k (hS k e).1).2.1 hR,h.b.only hO λk hK e=>(h.gg k (hS k e).1).2.2.1 hK,h.xr,h.xk,h.rk,λk hk=>⟨(h.gg k hk).1,(h.gg k hk).2.1,(h.gg k hk).2.2.1,h_ (h.gg k hk).2.2.2 a⟩,h.gw,h.okp,h.okr⟩
theorem EE (Q : Pq) (hQ : Q.Ok) (G : Nat → Prop) (σ : Sg) (N : Nat) (w : World) (h : ar w Q G σ σ N) (hn : σ.rs.length < 200100) (hN : N < 548900000000) :
    Calls Tryz.prog 56 #[.pointer (some ⟨Q.wb, 0, none⟩)] w fun e w' => eC w w' e Q G σ (N + 9900000) := by
  have HA : Hid (∀ (k : Int) (M : Nat) (W : World), ar W Q G σ σ M → M < 549000000000 → Calls Tryz.prog 53 #[.pointer (some ⟨Q.wb, 0, none⟩), .int .i64 k] W fun e w' => e = .returned (.bool true) ∧ ar w' Q G σ σ (M + 900000) ∧ ax W w' G) := fun k M W hW hM => BT Q hQ G σ M k W hW hn hM
  have HP : Hid (ar w Q G σ σ N) := h
  clear h hQ
  unfold eC
  generalize Q.wb = wb at *
  go_enter Tryz.func56, Tryz.ntmps56
  go_wp2_with fail
  go_loopw [3, 4] (fun kv _ wr => ∃ j : Nat, j ≤ 11 ∧ kv = .int .i64 (7 + j : Nat) ∧ Hid (ar wr Q G σ σ (N + 900000 * j)) ∧ Hid (ax w wr G)) (fun k _ _ => 18 - (intOf k).toNat)
  case atStart => exact ⟨0, by omega, rfl, HP, ax.of_below (n_ _ _)⟩
  case round =>
    obtain ⟨j, hj, rfl, hP, hK⟩ := hrel
    by_cases hlt : j < 11
    · have hA := HA.out ((7 + j : Nat) : Int) (N + 900000 * j) wr hP.out (by omega)
      have hA7 := HA.out 7 (N + 900000 * j) wr hP.out (by omega)
      have HPm : Hid (ar wr Q G σ σ (N + 900000 * (j + 1))) := hP.out.more (by omega)
      go_wp2_with fail
      all_goals first
        | exact ⟨⟨j + 1, hlt, by first | rfl | (congr 1; done) | (congr 1; omega), HPm, hK⟩, by simp [intOf]; omega⟩
        | (first | go_fit hA | go_fit hA7
           rintro e w1 ⟨rfl, hP1, hK1⟩
           have HP1 : Hid (ar w1 Q G σ σ (N + 900000 * (j + 1))) := hP1.more (by omega)
           have HK1 : Hid (ax w w1 G) := hK.out.trans hK1
           clear hA hA7 hP1 hK1 HPm
           go_wp2_with fail
           exact ⟨⟨j + 1, hlt, by first | rfl | (congr 1; done) | (congr 1; omega), HP1, HK1⟩, by simp [intOf]; omega⟩)
    · obtain rfl : j = 11 := by omega
      go_wp2_with fail
      go_ret
      exact ⟨rfl, hP.out.more (by omega), hK.out⟩
variable{g:ByteArray->ByteArray}{c:Cfg}{B:Nat}
def Sg.left (c:Cfg)(g:ByteArray->ByteArray)(σ:Sg):Nat:=(Ts.all c g σ.rs).outs.length-(Ts.all c g σ.rs).acked
structure Sg.Going (c:Cfg)(g:ByteArray->ByteArray)(σ:Sg)(B:Nat):Prop where
 up:σ.up=true
 br:σ.br=false
 len:σ.rs.length+σ.left c g<=B
theorem Sg.poll_some (hu:σ.up=true)(h:(σ.poll c g).2.2.2=0):(Ts.all c g σ.rs).acked<(Ts.all c g σ.rs).outs.length/\(σ.poll c g).1=((Ts.all c g σ.rs).acked:Int)+1:=by
 unfold Sg.poll at h ⊢;rw[if_neg (by rw[hu];decide)] at h ⊢;by_cases hlt:(Ts.all c g σ.rs).acked<(Ts.all c g σ.rs).outs.length
 ·rw[dif_pos hlt];exact⟨hlt,rfl⟩
 rw[dif_neg hlt] at h;cases h
theorem Sg.poll_err (hu:σ.up=true):(σ.poll c g).2.2.2=0\/(σ.poll c g).2.2.2=5:=by
 unfold Sg.poll;rw[if_neg (by rw[hu];decide)];split
 ·exact .inl rfl
 exact .inr rfl
theorem Sg.Going.step (h:σ.Going c g B)(hp:(σ.poll c g).2.2.2=0):iq (Ts.all c g σ.rs) (σ.poll c g).1 0/\(σ.ack (σ.poll c g).1 0).2.Going c g B/\(σ.ack (σ.poll c g).1 0).2.left c g<σ.left c g/\(σ.poll c g).1≠0:=by
 obtain⟨b,e⟩:=Sg.poll_some h.up hp;have a:(σ.ack (σ.poll c g).1 0).2={σ with rs:=σ.rs++[⟨6,0,(σ.poll c g).1.toNat,false,[]⟩]}:=by simp[Sg.ack,Sg.act,Sg.write,h.up,h.br]
 have d:(σ.ack (σ.poll c g).1 0).2.left c g=σ.left c g-1:=by
  rw[a];show (Ts.all c g (σ.rs++[_])).outs.length-(Ts.all c g (σ.rs++[_])).acked=_;rw[Ts.all_snoc,yL];show (Ts.all c g σ.rs).outs.length-((Ts.all c g σ.rs).acked+1)=(Ts.all c g σ.rs).outs.length-(Ts.all c g σ.rs).acked-1;omega
 have f:0<σ.left c g:=by unfold Sg.left;omega
 refine⟨.inl ⟨⟨b,e⟩,rfl⟩,⟨by rw[a];exact h.up,by rw[a];exact h.br,?_⟩,by omega,by omega⟩;rw[d,a];have:=h.len;simp;omega
theorem Sg.going (hc:c.Ok)(hσ:σ.Ok c g)(h:σ.rs.length<200000):σ.crash.2.recover.2.Going c g 1048000/\σ.crash.2.recover.2.rs.length<=σ.rs.length+1/\σ.crash.2.rs.length=σ.rs.length:=by
 have hd:σ.crash.2.up=false/\σ.crash.2.rs=σ.rs:=by
  unfold Sg.crash;split
  ·rename_i hu;exact⟨hu,rfl⟩
  exact⟨rfl,rfl⟩
 have a:σ.crash.2.recover.2={σ.crash.2 with rs:=σ.crash.2.rs++[rc7],up:=true,T:=[],br:=false}:=by unfold Sg.recover;rw[if_pos hd.1]
 have i:σ.crash.2.recover.2.rs.length=σ.rs.length+1:=by rw[a,hd.2,a_];rfl
 obtain⟨d,b⟩:=hσ.crash.recover.fits.inv hc;have e:=d.cnt;have f:=b.ids;refine⟨⟨by rw[a],by rw[a],?_⟩,by omega,by rw[hd.2]⟩;unfold Sg.left;omega
theorem z7 (Q:Pq)(hQ:Q.Ok)(G:Nat->Prop)(σ:Sg)(N:Nat)(w:World)(h:ar w Q G σ σ N)(hn:σ.rs.length<200000)(hN:N<548000000000):
 c_ 15 #[Px Q.wb] w λe w'=>e=.returned (.bool true)/\ax w w' G:=by
 obtain⟨aK,a7,a6⟩:=Sg.going hQ.c h.okp hn;have hA:=EE Q hQ G σ N w h (by omega) (by omega);have HA:Hid (∀(τ:Sg) (M:Nat) (W:World),ar W Q G τ τ M->τ.rs.length<200100->M<548900000000->c_ 56 #[Px Q.wb] W λe w'=>e=.returned (.bool true)/\ar w' Q G τ τ (M+9900000)/\ax W w' G):=λτ M W hW h1 h2=>EE Q hQ G τ M W hW h1 h2;have HC:Hid (∀(M:Nat) (W:World),ar W Q G σ σ M->c_ 50 #[Px Q.xb] W λe w'=>e=.returned (I σ.crash.1)/\ar w' Q G σ.crash.2 σ M/\ax W w' G):=λM W hW=>hW.doP h.okp.crash λX hX _=>yN X Q.xb Q.c σ Q.n Q.g W hX;have HD:Hid (∀(M:Nat) (W:World),ar W Q G σ.crash.2 σ M->c_ 51 #[Px Q.yb] W λe w'=>e=.returned (I σ.crash.1)/\ar w' Q G σ.crash.2 σ.crash.2 M/\ax W w' G):=λM W hW=>hW.doR h.okp.crash λR A=>zF R Q.yb Q.c σ Q.fv Q.ss W A Q.g h.okr;have HR:Hid (∀(τ:Sg) (M:Nat) (W:World),τ.rs.length<1048576->ar W Q G τ τ M->c_ 32 #[Px Q.xb] W λe w'=>e=.returned (I τ.recover.1)/\ar w' Q G τ.recover.2 τ M/\ax W w' G):=λτ M W hl hW=>hW.doP hW.okp.recover λX hX _=>rH X Q.xb Q.c τ Q.n Q.g W hX hW.okp hQ.c hl hQ.ss.n;have HS:Hid (∀(τ:Sg) (M:Nat) (W:World),τ.rs.length<1048576->ar W Q G τ.recover.2 τ M->c_ 52 #[Px Q.yb] W λe w'=>e=.returned (I τ.recover.1)/\ar w' Q G τ.recover.2 τ.recover.2 M/\ax W w' G):=λτ M W hl hW=>hW.doR hW.okr.recover λR A=>sw R Q.yb Q.c τ Q.fv Q.ss W A Q.g hW.okr hl;have b0:=h.box.c 0 (Px Q.xb);have b1:=h.box.c 1 (Px Q.yb);have b2:=h.box.c 2 (Px Q.bb);have C:=hd (h.gw);have U:Hid Q.Ok:=hQ;have HG:=hd (h.gl);have d:=hd aK;clear h hQ aK;unfold eC at hA;generalize aO:Q.wb=wb at *;generalize aP:Q.xb=xb at *;generalize aQ:Q.yb=yb at *;generalize aI:Q.bb=bb at *;have r:Hid (Q.wb=wb/\Q.xb=xb/\Q.yb=yb/\Q.bb=bb):=⟨aO,aP,aQ,aI⟩;clear aO aP aQ aI;go_enter func15,ntmps15;go_wp2_with fail;go_fit hA;rintro e w1 ⟨rfl,az,H⟩;have c0:=H.cell C.out b0;have c1:=H.cell C.out b1;have hC:=HC.out _ w1 az;have j:=hd H;clear hA az H HC;go_wp2_with fail;go_fit hC;rintro e w2 ⟨rfl,y,s⟩;have x:=j.out.trans s;have d1:=x.cell C.out b1;have hD:=HD.out _ w2 y;have k:=hd x;clear hC y s x HD j c0 c1;go_wp2_with fail;go_fit hD;rintro e w3 ⟨rfl,aA,aq⟩;have D:=hd (k.out.trans aq);have hB:=HA.out _ _ w3 aA (by omega) (by omega);clear hD aA aq k d1;generalize σ.crash.1=ke at *;generalize hτ:σ.crash.2=τ at *;clear hτ;go_wp2_with fail;go_fit hB;rintro e w4 ⟨rfl,aB,au⟩;have P:=hd (D.out.trans au);have e0:=P.out.cell C.out b0;have A:=HR.out τ _ w4 (by omega) aB;clear hB aB au D HR;go_wp2_with fail;go_fit A;rintro e w5 ⟨rfl,aC,av⟩;have S:=hd (P.out.trans av);have f1:=S.out.cell C.out b1;have hS:=HS.out τ _ w5 (by omega) aC;clear A aC av P HS e0;go_wp2_with fail;go_fit hS;rintro e w6 ⟨rfl,aD,aw⟩;have ah:=hd (S.out.trans aw);have hT:=HA.out _ _ w6 aD (by omega) (by omega);clear hS aD aw S f1 HA;generalize τ.recover.1=kr at *;generalize a2:τ.recover.2=τ2 at *;clear a2;go_wp2_with fail;go_fit hT;rintro e w7 ⟨rfl,aE,ay⟩;have E:=hd (ah.out.trans ay);have g1:=E.out.cell C.out b1;have F:=hd aE;have a:=F.out.askR λR A=>su R Q.yb Q.c τ2 Q.fv Q.ss w7 A Q.g Q.n U.out.ss F.out.okr U.out.c (by have:=d.out.len;omega);rw[r.out.2.2.1] at a;unfold gj at a;clear hT aE ay ah;obtain⟨t,u,v,p3,hp⟩:∃t u v p3,(τ2.poll Q.c Q.g)=(t,u,v,p3):=⟨_,_,_,_,rfl⟩;have Hp:=hd hp;rw[hp] at a;simp only at a;clear hp;go_wp2_with fail;go_fit a;rintro e B ⟨rfl,aH⟩;have O:=hd aH;clear a aH;go_wp2_with fail;have aa:Bl w7 (B.alloc (.cells #[I t,I u,I v] 99)):=aj O.out (af _ _);have al:=hd (F.out.widen aa);have ao:Hid (Bx (B.alloc (.cells #[I t,I u,I v] 99)) B.heap.size 99 #[I t,I u,I v]):=Bx.new _ _ _;have ak:=hd (E.out.trans (ax.of_below aa));have a0:=E.out.size;have aN:=O.out.size;have Go:Hid (aX G w7 (B.alloc (.cells #[I t,I u,I v] 99)) B.heap.size):=.inr ⟨aN,by simp⟩;have aR:Hid (¬G B.heap.size):=λhG=>by have:=HG.out _ hG;omega
 have a3:Hid (B.heap.size≠Q.wb):=λe=>aR.out (by rw[e,r.out.1];exact C.out);have ae:Hid (∀q,G q->aX G w7 (B.alloc (.cells #[I t,I u,I v] 99)) q):=λ_ h=>.inl h;generalize aY:B.heap.size=o at *;generalize B.alloc (.cells #[I t,I u,I v] 99)=wa at *;generalize aX G w7 wa=G1 at *;clear aa aY E O g1 F a0 aN;go_loopw [9,10,11] (λgv _ _ wr=>∃(ρ:Sg) (t u v p3:Int),gv=I p3/\Hid ((ρ.poll Q.c Q.g)=(t,u,v,p3))/\Hid (ρ.Going Q.c Q.g 1048000)/\Hid (Bx wr o 99 #[I t,I u,I v])/\Hid (ar wr Q G1 ρ ρ (N+9900000+9900000+9900000))/\Hid (ax w wr G)) (λgv _ _ wr=>if intOf gv=0 then 1048577-(intOf ((wr.cell? ⟨o,0,none⟩).getD undef)).toNat else 0)
 case atStart=>exact⟨τ2,t,u,v,p3,rfl,Hp,d,ao,al,ak⟩
 clear ao al ak Hp d;obtain⟨ρ,p,q1,q2,q3,rfl,Hp,d,HX,HP,HK⟩:=hrel;have aM:ρ.rs.length<1048576:=by have:=d.out.len;omega
 have b:=BS Q U.out G1 ρ _ wr HP.out aM;rw[r.out.1] at b;by_cases hq:q3=0
 ·subst hq;have hz:(ρ.poll Q.c Q.g).2.2.2=0:=by rw[Hp.out]
  have e0:(ρ.poll Q.c Q.g).1=p:=by rw[Hp.out]
  obtain⟨aL,ab⟩:=Sg.poll_some d.out.up hz;obtain⟨Z,z,L,ad⟩:=d.out.step hz
  have aZ:(Ts.all Q.c Q.g ρ.rs).outs.length<=ρ.rs.length:=by
   obtain⟨hI,hF⟩:=HP.out.okp.fits.inv U.out.c;have h1:=hI.cnt;have h2:=hF.ids;omega
  rw[e0] at Z z L ad ab;have aS:=hd Z;have m:=hd z;have aV:Hid (p=((Ts.all Q.c Q.g ρ.rs).acked:Int)+1/\(Ts.all Q.c Q.g ρ.rs).acked<(Ts.all Q.c Q.g ρ.rs).outs.length/\(Ts.all Q.c Q.g ρ.rs).outs.length<=1048000):=⟨ab,aL,by have:=d.out.len;omega⟩
  have ag:Hid (∀W,Bl wr W->c_ 48 #[Px wb,I p] W λe w'=>e=.returned (.bool true)/\ar w' Q G1 (ρ.ack p 0).2 (ρ.ack p 0).2 (N+9900000+9900000+9900000)/\ax W w' G1):=λW hb=>by
   have:=Et Q U.out G1 ρ _ p p 0 W (HP.out.later hb) aM (by rw[if_neg ad]) aS.out;rw[r.out.1] at this;exact this
  have ap:Hid ((Ts.all Q.c Q.g (ρ.ack p 0).2.rs).acked=(Ts.all Q.c Q.g ρ.rs).acked+1):=by
   show _=_;have ea:(ρ.ack p 0).2={ρ with rs:=ρ.rs++[⟨6,0,p.toNat,false,[]⟩]}:=by simp[Sg.ack,Sg.act,Sg.write,d.out.up,d.out.br]
   rw[ea];show (Ts.all Q.c Q.g (ρ.rs++[_])).acked=_;rw[Ts.all_snoc,yL]
  generalize a1:(ρ.ack p 0).2=ρ' at *;clear aL ab Z z L ad aZ e0 hz a1;go_wp2_with fail;go_fit b;rintro e v1 ⟨rfl,f⟩;have Y:=HX.out.later f;have x0:=Y.c 0 (I p);have aG:=ag.out v1 f;have am:=hd Y;have j:=hd (HK.out.trans (ax.of_below f));clear b f Y ag;go_wp2_with fail;go_fit aG;rintro e v2 ⟨rfl,y,s⟩;have T:=hd y;have k:=hd (j.out.trans (s.mono ae.out));have an:=hd (am.out.kept s λhn=>hn Go.out);have c1:=k.out.cell C.out b1;have a:=T.out.askR λR A=>su R Q.yb Q.c ρ' Q.fv Q.ss v2 A Q.g Q.n U.out.ss T.out.okr U.out.c (by have:=m.out.len;omega);rw[r.out.2.2.1] at a;unfold gj at a;obtain⟨J,r1,r2,r3,hr⟩:∃J r1 r2 r3,(ρ'.poll Q.c Q.g)=(J,r1,r2,r3):=⟨_,_,_,_,rfl⟩;have Hr:=hd hr;rw[hr] at a;simp only at a;clear aG y s hr x0 am j;go_wp2_with fail;go_fit a;rintro e v3 ⟨rfl,l⟩;have i:=an.out.later l;have y0:=i.c 0 (I p);have y1:=i.c 1 (I q1);have y2:=i.c 2 (I q2);have z0:=i.fr 0;have z1:=i.fr 1;have z2:=i.fr 2;have aU:=hd i;have aT:=hd (T.out.later l);have D:=hd (k.out.trans (ax.of_below l));clear a l i an c1;go_wp2_with fail;have hO:ai v3 (((v3.setCell ⟨o,0,none⟩ (I J)).setCell ⟨o,1,none⟩ (I r1)).setCell ⟨o,2,none⟩ (I r2)) (λq=>q=o):=(((ai.refl v3 (λq=>q=o)).set (.inl rfl)).set (.inl rfl)).set (.inl rfl);have aF:Bx (((v3.setCell ⟨o,0,none⟩ (I J)).setCell ⟨o,1,none⟩ (I r1)).setCell ⟨o,2,none⟩ (I r2)) o 99 #[I J,I r1,I r2]:=((aU.out.set 0 _).set 1 _).set 2 _;generalize ((v3.setCell ⟨o,0,none⟩ (I J)).setCell ⟨o,1,none⟩ (I r1)).setCell ⟨o,2,none⟩ (I r2)=vn at *;refine⟨⟨ρ',J,r1,r2,r3,rfl,Hr,m,aF,aT.out.touch hO λq hq=>by rw[hq];exact⟨Go.out,a3.out⟩,D.out.trans (hO.mono λq hq hG=>aR.out (by rw[<-hq];exact hG))⟩,?_⟩;have cn:=aF.c 0 (I J);have co:=HX.out.c 0 (I p);rw[cn,co];have hq:=aV.out;rcases Sg.poll_err m.out.up with h3|h3
  ·obtain⟨a4,aJ⟩:=Sg.poll_some m.out.up h3;rw[Hr.out] at h3 aJ;have V:r3=0:=h3;have aW:J=((Ts.all Q.c Q.g ρ'.rs).acked:Int)+1:=aJ;rw[ap.out] at aW;simp[intOf,V];omega
  rw[Hr.out] at h3;have V:r3=5:=h3;simp[intOf,V];omega
 have a8:(q3==0)=false:=by simpa using hq
 go_wp2_with fail;go_fit b;rintro e v1 ⟨rfl,f⟩;have a5:=(HK.out.trans (ax.of_below f)).cell C.out b2;have ac:=(HP.out.later f).askB λK hB=>uB K Q.bb _ v1 hB;rw[r.out.2.2.2] at ac;have j:=hd (HK.out.trans (ax.of_below f));clear b f;go_wp2_with fail;go_fit ac;rintro e v2 ⟨rfl,l⟩;have k:=hd (j.out.trans (ax.of_below l));clear ac l;go_wp2_with fail;go_ret;exact⟨rfl,k.out⟩
variable{l:List Fl}
def Sg.start:Sg:=⟨[],true,[],false,0⟩
theorem Sg.start_ok (c:Cfg)(g:ByteArray->ByteArray):Sg.start.Ok c g:=⟨.nil,kj,λ_=>rfl,λh=>(by cases h)⟩
def uN (w w':World):Nat->Prop:=λk=>w.heap.size<=k/\k<w'.heap.size
def dx (n0 n1 n2 n3 n4 n5 n6:Int):Value:=.agg #[I n0,I n1,I n2,I n3,I n4,I n5,I n6]
def sQ (w w':World)(e:Ending)(c:Cfg)(l:List Fl)(k:Int):Bool->Prop
 |true=>∃yb fv ss,e=.returned (.tuple #[Px yb,I k])/\bi w' (uN w w') yb c Sg.start fv ss/\lj ss (aF l) l.length
 |false=>e=.returned (.tuple #[.pointer none,I k])
def sP (w w':World)(e:Ending)(c:Cfg)(l:List Fl)(k:Int):Bool->Prop
 |true=>∃xb,e=.returned (.tuple #[Px xb,I k])/\bd w' (uN w w') xb c Sg.start l.length (aF l)
 |false=>e=.returned (.tuple #[.pointer none,I k])
theorem BB {n0 n1 n2 n3 n4 n5 n6:Int}(h:jq n0 n1 n2 n3 n4 n5 n6):∃c:Cfg,c.Ok/\n0=c.lanes/\n1=c.age/\n2=c.batch/\n3=c.window/\n4=c.retries/\n5=c.deadline/\n6=c.queue:=by
 obtain⟨a,b,d,e,f,g,i⟩:=h;refine⟨⟨n0.toNat,n1.toNat,n2.toNat,n3.toNat,n4.toNat,n5.toNat,n6.toNat⟩,⟨⟨?_,?_⟩,⟨?_,?_⟩,⟨?_,?_⟩,⟨?_,?_⟩,?_,⟨?_,?_⟩,⟨?_,?_⟩⟩,?_,?_,?_,?_,?_,?_,?_⟩<;>simp<;>omega
theorem xx (h:cB dy Prod.fst l):∀f∈l,f.2≠⟨#[]⟩:=λf hf e=>by
 have:=h.1 f hf
 rw[dy,e] at this
 simp[cQ] at this
theorem lu (n0 n1 n2 n3 n4 n5 n6:Int)(l:List Fl)(hn:(l.length+100)*64<=140737488355328)(hn0:l.length<1048576000)(hsz:∀f∈l,f.1.size<=maxLen):∃(ok:Bool) (k:Int) (c:Cfg),(ok=true->c.Ok)/\
 (∀(w:World) (fa:Option Addr) (fn fc:Nat),ay w (.slice fa fn fc) l->c_ 35 #[dx n0 n1 n2 n3 n4 n5 n6,.slice fa fn fc] w λe w'=>sQ w w' e c l k ok/\Bl w w')/\
 (∀(w:World) (fa:Option Addr) (fn fc:Nat),ay w (.slice fa fn fc) l->c_ 37 #[dx n0 n1 n2 n3 n4 n5 n6,.slice fa fn fc] w λe w'=>sP w w' e c l k ok/\Bl w w'):=by
 by_cases hc:jq n0 n1 n2 n3 n4 n5 n6
 ·obtain⟨c,i,rfl,rfl,rfl,rfl,rfl,rfl,rfl⟩:=BB hc;by_cases hg:cB dy Prod.fst l
  ·refine⟨true,0,c,λ_=>i,λw fa fn fc hl=>?_,λw fa fn fc hl=>?_⟩
   ·refine(EF c l fa fn fc w hc hl (by omega) hsz).mono ?_;rintro e w' ⟨h|h,b⟩
    ·obtain⟨_,o,s,C,rfl,n,r,a,m,d⟩:=h;refine⟨⟨o,s,C,rfl,⟨⟨Zn,[],r,rfl,by simp,by simp[Value.ownBlock]⟩,Sl.of_row a,λq hq=>f_ a q hq,⟨n,r.box.lt⟩,λk hk=>hk.2⟩,⟨xw m d (xx hg) hg.2,Nat.le_of_eq d.length_eq,λf hf=>hg.1 f (d.mem_iff.1 hf),hn0⟩⟩,b⟩
    exact absurd hg h.1
   refine(DN c l fa fn fc w hc hl (sM hn) hsz).mono ?_;rintro e w' ⟨h|h,b⟩
   ·obtain⟨_,D,rfl,⟨Y,A,B,o,j,p,t,u,v,x,y,z⟩,g⟩:=h;refine⟨⟨D,rfl,.inl ⟨rfl,⟨⟨A,Zn,Y,B,o,0,p,j,λh=>(by cases h),⟨t,p.lt⟩,⟨u,j.run.lt⟩,λk hk=>⟨z k hk,j.yl k hk⟩,by simp[Value.ownBlock],v,x,y⟩,⟨g,j.box.lt⟩,λk hk=>hk.2⟩⟩⟩,b⟩
   exact absurd hg h.1
  refine⟨false,2,c,λ_=>i,λw fa fn fc hl=>?_,λw fa fn fc hl=>?_⟩
  ·refine(EF c l fa fn fc w hc hl (by omega) hsz).mono ?_;rintro e w' ⟨h|h,b⟩
   ·exact absurd h.1 hg
   exact⟨h.2,b⟩
  refine(DN c l fa fn fc w hc hl (sM hn) hsz).mono ?_;rintro e w' ⟨h|h,b⟩
  ·exact absurd h.1 hg
  exact⟨h.2,b⟩
 refine⟨false,1,⟨0,0,0,0,0,0,0⟩,λh=>(by cases h),λw fa fn fc _=>?_,λw fa fn fc _=>?_⟩
 ·exact sO n0 n1 n2 n3 n4 n5 n6 fa fn fc w hc
 exact rD n0 n1 n2 n3 n4 n5 n6 fa fn fc w hc
variable{base cap:Nat}
def bW (w w':World)(e:Ending)(l:List Fl):Bool->Prop
 |false=>e=.returned (.tuple #[.pointer none,.bool true])
 |true=>∃Q:Pq,Q.Ok/\e=.returned (.tuple #[Px Q.wb,.bool true])/\Q.n=l.length/\w.heap.size<=Q.wb/\ar w' Q (λk=>k<w.heap.size\/k=Q.wb) Sg.start Sg.start 0
theorem ay.head {g:Nat}{es ms:List Fl}(h:w.ownsRow base 80 2 (s_ g 0 (es++ms).length cap) (es++ms).length ((es++ms).flatMap cF)):ay w (s_ g 0 es.length cap) es:=by
 have a:=(Sl.of_row h).cut (k:=es.length) (by rw[a_];omega)
 have e:((es++ms).flatMap cF).take (es.length*2)=es.flatMap cF:=by
  rw[r_,<-aR cF 2 (λ_=>rfl) es,List.take_left]
 rw[e] at a;exact ay.of_sl a
theorem nT (n0 n1 n2 n3 n4 n5 n6 k:Int)(c:Cfg)(l:List Fl)(fa:Option Addr)(fc:Nat)(w:World)(hl:ay w (.slice fa l.length fc) l)(hn:(l.length+100)*64<=140737488355328)(hy:∀(w:World) (fa:Option Addr) (fn fc:Nat),ay w (.slice fa fn fc) l->c_ 35 #[dx n0 n1 n2 n3 n4 n5 n6,.slice fa fn fc] w λe w'=>sQ w w' e c l k false/\Bl w w')(hx:∀(w:World) (fa:Option Addr) (fn fc:Nat),ay w (.slice fa fn fc) l->c_ 37 #[dx n0 n1 n2 n3 n4 n5 n6,.slice fa fn fc] w λe w'=>sP w w' e c l k false/\Bl w w'):
 c_ 12 #[dx n0 n1 n2 n3 n4 n5 n6,.slice fa l.length fc] w λe w'=>bW w w' e l false/\Bl w w':=by
 unfold sQ at hy;unfold sP at hx;unfold bW;unfold dx at *;have x:Hid (Bl w (w.alloc (.cells #[I n0,I n1,I n2,I n3,I n4,I n5,I n6] 23))):=af _ _;have o:=Bx.new w #[I n0,I n1,I n2,I n3,I n4,I n5,I n6] 23;have O:=hy _ fa l.length fc (hl.later x.out);have R:=o.c 0 (I n0);have T:=o.c 1 (I n1);have U:=o.c 2 (I n2);have V:=o.c 3 (I n3);have W:=o.c 4 (I n4);have X:=o.c 5 (I n5);have Y:=o.c 6 (I n6);have HL:=hd hl;clear hl hy;go_enter func12,ntmps12;go_wp2_with fail;go_fit O;rintro e P ⟨rfl,B⟩;have y:=hd (aj x.out B);have X1:=o.later B;skip;have hL:=eh l fa fc P (ay.later HL.out y.out) (by show _<=_;omega) (sM hn);have J:=hd X1;have HX:=hd hx;clear O B o X1 R T U V W X Y hx x;go_wp2_with fail;go_fit hL;rintro e w2 ⟨⟨g,rfl,b⟩,C⟩;have d:=J.out.later C;have R:=d.c 0 (I n0);have T:=d.c 1 (I n1);have U:=d.c 2 (I n2);have V:=d.c 3 (I n3);have W:=d.c 4 (I n4);have X:=d.c 5 (I n5);have Y:=d.c 6 (I n6);have ag:=f_ b g rfl;have N:=HX.out w2.drew (some ⟨g,0,none⟩) l.length (l.length+2) (ay.later (ay.head (ms:=[((di,⟨#[]⟩):Fl),((di,⟨#[]⟩):Fl)]) (by rw[a_];exact b)) ⟨rfl,rfl,rfl,b_ _,λ_ _=>rfl⟩);have p:=hd b;have G:=hd C;have ab:=sM hn;clear hL b C d HX J;go_wp2_with fail;go_cut [10,11] from 12 (λt u wz=>t=.pointer none/\u=I k/\Bl w2 wz)
 case first=>
  go_region_held_law (λw'=>w'.cell? ⟨w.heap.size,0,none⟩=some (I n0)/\w'.cell? ⟨w.heap.size,1,none⟩=some (I n1)/\w'.cell? ⟨w.heap.size,2,none⟩=some (I n2)/\w'.cell? ⟨w.heap.size,3,none⟩=some (I n3)/\w'.cell? ⟨w.heap.size,4,none⟩=some (I n4)/\w'.cell? ⟨w.heap.size,5,none⟩=some (I n5)/\w'.cell? ⟨w.heap.size,6,none⟩=some (I n6)) (go_keep) ((go_at_call 37;refine N.mono ?_;rintro e F ⟨rfl,a⟩;have y0:=ae a R;have y1:=ae a T;have y2:=ae a U;have y3:=ae a V;have y4:=ae a W;have y5:=ae a X;have y6:=ae a Y;skip;have z:Hid (Bl w2 F):=⟨a.os,a.tape,a.output,a.size,a.block⟩;clear a))
  all_goals
   go_wp2_with fail;go_meet
   case rel=>exact⟨rfl,rfl,z.out⟩
 obtain⟨rfl,rfl,a⟩:=hcut;rename World=>F;have s:=aj G.out a;have M:=eh l fa fc F (ay.later HL.out (aj y.out s)) (by show _<=_;omega) ab;have A:=hd (t_ p.out (cO a) (Classical.em _));have z:=hd a;skip;clear N a R T U V W X Y s;go_wp2_with fail;go_fit M;rintro e Q ⟨⟨g2,rfl,n⟩,D⟩;have f:(l++[((di,⟨#[]⟩):Fl),((di,⟨#[]⟩):Fl)]).length=l.length+2:=by rw[a_];rfl
 have E1:ay F (s_ g 0 (l.length+2) (l.length+2)) (l++[((di,⟨#[]⟩):Fl),((di,⟨#[]⟩):Fl)]):=ay.of_row (base:=P.heap.size) (e:=80) (by rw[f];exact A.out);have E2:ay Q (s_ g2 0 (l.length+2) (l.length+2)) (l++[((di,⟨#[]⟩):Fl),((di,⟨#[]⟩):Fl)]):=ay.of_row (base:=F.heap.size) (e:=80) (by rw[f];exact n);have hS:=eM _ _ _ _ Q (E1.later D) E2 (by rw[f];omega);have j:=hd D;clear M n D E1 E2 f;go_wp2_with fail;go_fit hS;rintro e w5 ⟨⟨r,rfl,hr⟩,m,rfl⟩;obtain rfl:r=true:=hr.2 (by first|rfl|trivial);have H:Hid (Bl F (Q.drewN m)):=⟨j.out.os,j.out.tape,j.out.output,j.out.size,j.out.block⟩;generalize Q.drewN m=w5 at *;have aa:=hd (t_ A.out (cO H.out) (Classical.em _));obtain⟨i0,hi,am,ad,an⟩:=info_parts qB;have ac:(prog.info? 80).map (·.size)=some 2:=by rw[hi];simp[ad]
 clear hS hr p A j;go_wp2_with fail;go_loopw [13] (λiv wr=>∃i:Nat,i<=l.length/\iv=I i/\Hid (∃xs,wr.ownsRow P.heap.size 80 2 (s_ g 0 (l.length+2) (l.length+2)) (l.length+2) xs)/\Hid (ai w5 wr (λq=>q=g))) (λi _=>l.length-(intOf i).toNat)
 case atStart=>exact⟨0,k_ _,rfl,⟨_,aa.out⟩,ai.refl _ _⟩
 obtain⟨i,ah,rfl,⟨xs,b⟩,E⟩:=hrel;by_cases hlt:i<l.length
 ·have L:=hd b;have K:Hid (i*2+2<=xs.length):=by show _<=_;rw[b.1];omega
  clear b;go_wp2_with (refine aZ _ rfl _ _ _ rfl P.heap.size _ 2 _ _ _ _ _ L.out rfl [.string ⟨#[111,116,104,101,114]⟩,.string ⟨#[]⟩] rfl ac K.out (by simp[Value.oneCell']) ?_;intro w6 hrow6 hg6);exact⟨⟨i+1,hlt,by go_num,⟨_,hrow6⟩,E.out.trans (ai.of_grown (S:=λq=>q=g) hg6 λq e=>by cases e;rfl) λ_ h=>.inl h⟩,by simp[intOf];omega⟩
 have Z:Hid (Bl w wr):=by
  have h1:=y.out;have h5:=aj h1 (aj G.out (aj z.out H.out));have ak:=h1.size;have al:=h5.size;exact h5.trans ⟨E.out.os,E.out.tape,E.out.output,E.out.size,λk hk=>E.out.block k (by omega) (by omega)⟩
 go_wp2_with fail;refine bodyPost_ret (v:=.tuple #[.pointer none,.bool true]) (by simp[results,results12,go_sem]) rfl ⟨rfl,Z.out⟩
theorem lw (n0 n1 n2 n3 n4 n5 n6 k:Int)(c:Cfg)(l:List Fl)(fa:Option Addr)(fc:Nat)(w:World)(hl:ay w (.slice fa l.length fc) l)(hc:c.Ok)(hn:(l.length+100)*64<=140737488355328)(hy:∀(w:World) (fa:Option Addr) (fn fc:Nat),ay w (.slice fa fn fc) l->c_ 35 #[dx n0 n1 n2 n3 n4 n5 n6,.slice fa fn fc] w λe w'=>sQ w w' e c l k true/\Bl w w')(hx:∀(w:World) (fa:Option Addr) (fn fc:Nat),ay w (.slice fa fn fc) l->c_ 37 #[dx n0 n1 n2 n3 n4 n5 n6,.slice fa fn fc] w λe w'=>sP w w' e c l k true/\Bl w w'):
 c_ 12 #[dx n0 n1 n2 n3 n4 n5 n6,.slice fa l.length fc] w λe w'=>bW w w' e l true/\Bl w w':=by
 unfold sQ at hy;unfold sP at hx;unfold bW;unfold dx at *;have L:Hid (Bl w (w.alloc (.cells #[I n0,I n1,I n2,I n3,I n4,I n5,I n6] 23))):=af _ _;have C:=Bx.new w #[I n0,I n1,I n2,I n3,I n4,I n5,I n6] 23;have ag:=hy _ fa l.length fc (hl.later L.out);have x0:=C.c 0 (I n0);have x1:=C.c 1 (I n1);have x2:=C.c 2 (I n2);have x3:=C.c 3 (I n3);have x4:=C.c 4 (I n4);have x5:=C.c 5 (I n5);have x6:=C.c 6 (I n6);have HL:=hd hl;clear hl hy;go_enter func12,ntmps12;go_wp2_with fail;go_fit ag;rintro e U ⟨⟨V,fv,ss,rfl,hR,hT⟩,x⟩;have B:=hd (aj L.out x);have X1:=C.later x;have al:=hd hR;have HT:=hd hT;clear hR hT;have hL:=eh l fa fc U (ay.later HL.out B.out) (by show _<=_;omega) (sM hn);have W:=hd X1;have HX:=hd hx;clear ag x C X1 x0 x1 x2 x3 x4 x5 x6 hx L;go_wp2_with fail;go_fit hL;rintro e T ⟨⟨g,rfl,b⟩,n⟩;have d:=W.out.later n;have x0:=d.c 0 (I n0);have x1:=d.c 1 (I n1);have x2:=d.c 2 (I n2);have x3:=d.c 3 (I n3);have x4:=d.c 4 (I n4);have x5:=d.c 5 (I n5);have x6:=d.c 6 (I n6);have av:=f_ b g rfl;have ad:=HX.out T.drew (some ⟨g,0,none⟩) l.length (l.length+2) (ay.later (ay.head (ms:=[((di,⟨#[]⟩):Fl),((di,⟨#[]⟩):Fl)]) (by rw[a_];exact b)) ⟨rfl,rfl,rfl,b_ _,λ_ _=>rfl⟩);have F:=hd b;have M:=hd n;have ao:=sM hn;clear hL b n d HX W;go_wp2_with fail;go_cut [10,11] from 12 (λt u wz=>∃A,t=Px A/\u=I k/\bd wz (uN T wz) A c Sg.start l.length (aF l)/\Bl T wz)
 case first=>
  go_region_held_law (λw'=>w'.cell? ⟨w.heap.size,0,none⟩=some (I n0)/\w'.cell? ⟨w.heap.size,1,none⟩=some (I n1)/\w'.cell? ⟨w.heap.size,2,none⟩=some (I n2)/\w'.cell? ⟨w.heap.size,3,none⟩=some (I n3)/\w'.cell? ⟨w.heap.size,4,none⟩=some (I n4)/\w'.cell? ⟨w.heap.size,5,none⟩=some (I n5)/\w'.cell? ⟨w.heap.size,6,none⟩=some (I n6)) (go_keep) ((go_at_call 37;refine ad.mono ?_;rintro e K ⟨⟨A,rfl,s⟩,a⟩;have y0:=ae a x0;have y1:=ae a x1;have y2:=ae a x2;have y3:=ae a x3;have y4:=ae a x4;have y5:=ae a x5;have y6:=ae a x6;have O:=hd s;clear s;have o:Hid (Bl T K):=⟨a.os,a.tape,a.output,a.size,a.block⟩;clear a))
  all_goals
   go_wp2_with fail;go_meet
   case rel=>exact⟨A,rfl,rfl,O.out,o.out⟩
 obtain⟨A,rfl,rfl,s,a⟩:=hcut;rename World=>K;have H:=aj M.out a;have aa:=eh l fa fc K (ay.later HL.out (aj B.out H)) (by show _<=_;omega) ao;have N:=hd (t_ F.out (cO a) (Classical.em _));have o:=hd a;have O:=hd s;clear s;clear ad a x0 x1 x2 x3 x4 x5 x6 H;go_wp2_with fail;go_fit aa;rintro e w4 ⟨⟨g2,rfl,z⟩,Q⟩;have f:(l++[((di,⟨#[]⟩):Fl),((di,⟨#[]⟩):Fl)]).length=l.length+2:=by rw[a_];rfl
 have E1:ay K (s_ g 0 (l.length+2) (l.length+2)) (l++[((di,⟨#[]⟩):Fl),((di,⟨#[]⟩):Fl)]):=ay.of_row (base:=U.heap.size) (e:=80) (by rw[f];exact N.out);have E2:ay w4 (s_ g2 0 (l.length+2) (l.length+2)) (l++[((di,⟨#[]⟩):Fl),((di,⟨#[]⟩):Fl)]):=ay.of_row (base:=K.heap.size) (e:=80) (by rw[f];exact z);have hS:=eM _ _ _ _ w4 (E1.later Q) E2 (by rw[f];omega);have j:=hd Q;clear aa z Q E1 E2 f;go_wp2_with fail;go_fit hS;rintro e w5 ⟨⟨r,rfl,hr⟩,m,rfl⟩;obtain rfl:r=true:=hr.2 (by first|rfl|trivial);have p:Hid (Bl K (w4.drewN m)):=⟨j.out.os,j.out.tape,j.out.output,j.out.size,j.out.block⟩;generalize w4.drewN m=w5 at *;have ak:=hd (t_ N.out (cO p.out) (Classical.em _));obtain⟨i0,hi,aA,au,aB⟩:=info_parts qB;have ar:(prog.info? 80).map (·.size)=some 2:=by rw[hi];simp[au]
 clear hS hr F N j;go_wp2_with fail;go_loopw [13] (λiv wr=>∃i:Nat,i<=l.length/\iv=I i/\Hid (∃xs,wr.ownsRow U.heap.size 80 2 (s_ g 0 (l.length+2) (l.length+2)) (l.length+2) xs)/\Hid (ai w5 wr (λq=>q=g))) (λi _=>l.length-(intOf i).toNat)
 case atStart=>exact⟨0,k_ _,rfl,⟨_,ak.out⟩,ai.refl _ _⟩
 obtain⟨i,aw,rfl,⟨xs,b⟩,D⟩:=hrel;by_cases hlt:i<l.length
 ·have Y:=hd b;have X:Hid (i*2+2<=xs.length):=by show _<=_;rw[b.1];omega
  clear b;go_wp2_with (refine aZ _ rfl _ _ _ rfl U.heap.size _ 2 _ _ _ _ _ Y.out rfl [.string ⟨#[111,116,104,101,114]⟩,.string ⟨#[]⟩] rfl ar X.out (by simp[Value.oneCell']) ?_;intro w6 hrow6 hg6);exact⟨⟨i+1,hlt,by go_num,⟨_,hrow6⟩,D.out.trans (ai.of_grown (S:=λq=>q=g) hg6 λq e=>by cases e;rfl) λ_ h=>.inl h⟩,by simp[intOf];omega⟩
 have ah:Hid (Bl w wr):=by
  have G:=B.out;have h5:=aj G (aj M.out (aj o.out p.out));have ax:=G.size;have az:=h5.size;exact h5.trans ⟨D.out.os,D.out.tape,D.out.output,D.out.size,λk y=>D.out.block k (by omega) (by omega)⟩
 go_wp2_with fail;have aq:(w.alloc (.cells #[I n0,I n1,I n2,I n3,I n4,I n5,I n6] 23)).heap.size=w.heap.size+1:=by simp
 have P:=al.out;generalize w.alloc (.cells #[I n0,I n1,I n2,I n3,I n4,I n5,I n6] 23)=W0 at aq P;have s1:=B.out.size;have s3:=o.out.size;have s5:=p.out.size;have sr:=D.out.size;have am:=aj M.out (aj o.out p.out);have ap:=P.rl
 have hR:bi wr (uN W0 U) V c Sg.start fv ss:=(P.later am).only D.out λq hq e=>by
  have:=ap q hq;omega
 have hX:bd wr (uN T K) A c Sg.start l.length (aF l):=(O.out.later p.out).only D.out λq hq e=>by
  have:T.heap.size<=q:=hq.1;omega
 have J:(wr.alloc (.cells #[Zn,Zn,Zn,Zn,Zn,Zn] 88)).heap.size=wr.heap.size+1:=by simp
 have an:=Bx.new wr #[Zn,Zn,Zn,Zn,Zn,Zn] 88;have x:=af wr (.cells #[Zn,Zn,Zn,Zn,Zn,Zn] 88);generalize wr.alloc (.cells #[Zn,Zn,Zn,Zn,Zn,Zn] 88)=E at *;have ab:=Bx.new E #[Px A,Px V,Px wr.heap.size] 38;rw[J] at ab;have n:=af E (.cells #[Px A,Px V,Px wr.heap.size] 38);have ac:(E.alloc (.cells #[Px A,Px V,Px wr.heap.size] 38)).heap.size=wr.heap.size+1+1:=by rw[<-J];simp
 have R:=aj x n;have Z:=an.later n;generalize E.alloc (.cells #[Px A,Px V,Px wr.heap.size] 38)=wn at *;refine bodyPost_ret (v:=.tuple #[.pointer (some ⟨wr.heap.size+1,0,none⟩),.bool true]) (by simp[results,results12,go_sem]) rfl ⟨⟨⟨wr.heap.size+1,A,V,wr.heap.size,c,fv,l.length,aF l,ss⟩,⟨hc,HT.out⟩,rfl,rfl,?_,⟨uN T K,uN W0 U,λk=>k=wr.heap.size,⟨ab,hX.later R,hR.later R,?_,?_,?_,?_,?_,.inr rfl,Sg.start_ok _ _,Sg.start_ok _ _⟩⟩⟩,?_⟩
 ·show w.heap.size<=wr.heap.size+1;omega
 ·exact⟨[],[],[],[],[],[],Zn,Zn,Zn,Zn,Zn,Zn,⟨Z,rfl,λk y=>by rw[y,ac];omega,BL.nil _ _ _,BL.nil _ _ _,BL.nil _ _ _,BL.nil _ _ _,BL.nil _ _ _,BL.nil _ _ _⟩,b_ _,b_ _,b_ _,b_ _,b_ _,b_ _⟩
 ·intro k y hk';have G:=y.1;have h2:=hk'.2;omega
 ·intro k y hk';have G:=y.2;have h2:k=wr.heap.size:=hk';omega
 ·intro k y hk';have G:=y.2;have h2:k=wr.heap.size:=hk';omega
 ·intro k y;have y:k<w.heap.size\/k=wr.heap.size+1:=y;refine⟨λh=>?_,λh=>?_,λh=>?_,by omega⟩
  ·have G:=h.1;have h2:=h.2;omega
  ·have G:=h.1;have h2:=h.2;omega
  have G:k=wr.heap.size:=h;omega
 exact ah.out.trans (R.mono (by omega))
structure Ac where
 kind:Int
 id:Int
 lane:Int
 pass:Bool
 es:List Ed
 ea:Option Addr
 ec:Nat
def cA (a:Ac):List Value:=[I a.kind,I a.id,I a.lane,.bool a.pass,.slice a.ea a.es.length a.ec]
structure Ac.Ok (w:World)(a:Ac):Prop where
 ed:aH w (.slice a.ea a.es.length a.ec) a.es
 sm:(a.es.length+80)*48<=140737488355328
 rg:-9223372036854775808<=a.id/\a.id<9223372036854775808
theorem Ac.Ok.later {a:Ac}(h:a.Ok w)(hb:Bl w w'):a.Ok w':=⟨h.ed.later hb,h.sm,h.rg⟩
theorem eO {ea:Option Addr}{ec:Nat}{es:List Ed}(h:aH w (.slice ea es.length ec) es)(h0:0<es.length):∀b,(Value.slice ea es.length ec).ownBlock=some b->b<w.heap.size:=λb hb=>by
 rcases h with ⟨rfl,_⟩|⟨c,f,d,e,a,_⟩
 ·simp at h0
 obtain⟨rfl,_,_⟩:=Value.slice.inj e
 have:c=b:=by simpa[Value.ownBlock] using hb
 rw[<-this];exact a
def dM (w:World)(v:Value)(xs:List Ac):Prop:=∃a cap,v=.slice a xs.length cap/\(xs=[]\/∃b off,a=some ⟨b,off,none⟩/\b<w.heap.size/\∀i (h:i<xs.length) j u,(cA xs[i])[j]? =some u->w.cell? ⟨b,off+i*5+j,none⟩=some u)
theorem xy (cv:Value)(l:List Fl)(fa:Option Addr)(fc:Nat)(sv:Value)(w:World)(n0 n1 n2 n3 n4 n5 n6:Int)(hcv:cv=dx n0 n1 n2 n3 n4 n5 n6)(hsv:bD sv)(hM:∀W,Bl w W->c_ 12 #[cv,.slice fa l.length fc] W λe w'=>bW W w' e l false/\Bl W w'):
 c_ 11 #[cv,.slice fa l.length fc,sv] w λe w'=>e=.returned (.bool true)/\Bl w w':=by
 subst hcv;obtain⟨h,j,i,rfl⟩:=hsv;unfold bW at hM;unfold dx at *;have b:Hid (Bl w (w.alloc (.cells #[I n0,I n1,I n2,I n3,I n4,I n5,I n6] 23))):=af _ _;have a:=Bx.new w #[I n0,I n1,I n2,I n3,I n4,I n5,I n6] 23;have m:=a.c 0 (I n0);have n:=a.c 1 (I n1);have o:=a.c 2 (I n2);have p:=a.c 3 (I n3);have q:=a.c 4 (I n4);have r:=a.c 5 (I n5);have s:=a.c 6 (I n6);have g:=hM _ b.out;clear hM a;go_enter func11,ntmps11;go_wp2_with fail;go_fit g;rintro e k ⟨rfl,d⟩;have f:=hd (aj b.out d);clear g d;go_wp2_with fail;go_ret;exact⟨rfl,f.out⟩
theorem uO (cv:Value)(l:List Fl)(fa:Option Addr)(fc:Nat)(sv:Value)(xs:List Ac)(w:World)(n0 n1 n2 n3 n4 n5 n6:Int)(hcv:cv=dx n0 n1 n2 n3 n4 n5 n6)(hsv:dM w sv xs)(hok:∀a∈xs,a.Ok w)(hlen:xs.length<200000)(hM:∀W,Bl w W->c_ 12 #[cv,.slice fa l.length fc] W λe w'=>bW W w' e l true/\Bl W w'):
 c_ 11 #[cv,.slice fa l.length fc,sv] w λe w'=>e=.returned (.bool true)/\Bl w w':=by
 subst hcv;obtain⟨sa,sc,rfl,hS⟩:=hsv;unfold bW at hM;unfold dx at *;have r:Hid (Bl w (w.alloc (.cells #[I n0,I n1,I n2,I n3,I n4,I n5,I n6] 23))):=af _ _;have o:=Bx.new w #[I n0,I n1,I n2,I n3,I n4,I n5,I n6] 23;have x0:=o.c 0 (I n0);have x1:=o.c 1 (I n1);have x2:=o.c 2 (I n2);have x3:=o.c 3 (I n3);have x4:=o.c 4 (I n4);have x5:=o.c 5 (I n5);have x6:=o.c 6 (I n6);have hm:=hM _ r.out;clear hM o;have T:(w.alloc (.cells #[I n0,I n1,I n2,I n3,I n4,I n5,I n6] 23)).heap.size=w.heap.size+1:=by simp
 go_enter func11,ntmps11;go_wp2_with fail;generalize w.alloc (.cells #[I n0,I n1,I n2,I n3,I n4,I n5,I n6] 23)=M at *;go_fit hm;rintro e D ⟨⟨Q,Z,rfl,O,U,p⟩,A⟩;have g:Hid (Bl w D):=aj r.out A;have H:=hd p;have V:Hid Q.Ok:=Z;have b2:=p.box.c 2 (Px Q.bb);have n:Hid (∀k,k<w.heap.size->(k<M.heap.size\/k=Q.wb)):=λk hk=>.inl (by omega);have Gw:Hid ((λk=>k<M.heap.size\/k=Q.wb) Q.wb):=.inr rfl;clear hm A p Z x0 x1 x2 x3 x4 x5 x6 r U O;generalize X:(λk=>k<M.heap.size\/k=Q.wb)=G at *;have m:Hid (∀k,k<w.heap.size->G k):=λk hk=>by rw[<-X];exact n.out k hk
 clear X n T;go_wp2_with fail;go_loopw [8,9] (λ_ iv wr=>∃i:Nat,i<=xs.length/\iv=I i/\Hid (∃σ,ar wr Q G σ σ (900000*i)/\σ.rs.length<=i)/\Hid (ax D wr G)) (λ_ i _=>xs.length-(intOf i).toNat)
 case atStart=>exact⟨0,k_ _,rfl,⟨Sg.start,H.out,b_ _⟩,ax.of_below (n_ _ _)⟩
 obtain⟨i,aa,rfl,⟨σ,p,hl⟩,y⟩:=hrel;by_cases hlt:i<xs.length
 ·have f:=hok xs[i] (i_ hlt);rcases hS with rfl|⟨b,C,rfl,P,R⟩
  ·simp at hlt
  have t:∀j (u:Value),(cA xs[i])[j]? =some u->wr.cell? ⟨b,C+i*5+j,none⟩=some u:=λj u hu=>y.out.cell (m.out b P) (ae g.out (R i hlt j u hu));have d0:wr.cell? ⟨b,C+i*5,none⟩=some (I xs[i].kind):=t 0 _ rfl;have d1:=t 1 (I xs[i].id) rfl;have d2:=t 2 (I xs[i].lane) rfl;have d3:=t 3 (.bool xs[i].pass) rfl;have d4:=t 4 (.slice xs[i].ea xs[i].es.length xs[i].ec) rfl;have x:aH wr (.slice xs[i].ea xs[i].es.length xs[i].ec) xs[i].es:=iy (f.ed.later g.out) y.out.size λh0 q hq'=>y.out.block q (h_ (eO f.ed h0 q hq') g.out.size) λhn=>hn (m.out q (eO f.ed h0 q hq'));have N:=ED Q V.out G σ (900000*i) xs[i].kind xs[i].id xs[i].lane xs[i].pass xs[i].es xs[i].ea xs[i].ec wr p (by omega) (by omega) f.rg x (λh0 q hq'=>m.out q (eO f.ed h0 q hq')) f.sm;unfold bG at N;clear t x f p;generalize xs[i].kind=z0 at *;generalize xs[i].id=z1 at *;generalize xs[i].lane=z2 at *;generalize xs[i].pass=z3 at *;generalize xs[i].es.length=z4 at *;generalize xs[i].ea=z5 at *;generalize xs[i].ec=z6 at *;go_wp2_with fail;go_fit N;rintro e E ⟨rfl,⟨σ2,z,S⟩,h⟩;have d:Hid (ax D E G):=y.out.trans h;have v:=hd z;have L:Hid (σ2.rs.length<=i+1):=by show _<=_;omega
  have c2:=d.out.cell Gw.out b2;have B:=v.out.askB λK hB=>uB K Q.bb _ E hB;clear N z h S hl d0 d1 d2 d3 d4;go_wp2_with fail;go_fit B;rintro e w3 ⟨rfl,s⟩;have J:Hid (ar w3 Q G σ2 σ2 (900000*(i+1))):=(v.out.later s).more (by omega);have F:Hid (ax D w3 G):=d.out.trans (ax.of_below s);clear B s c2;go_wp2_with fail;exact⟨⟨i+1,hlt,by go_num,⟨σ2,J.out,L.out⟩,F⟩,by simp[intOf];omega⟩
 obtain rfl:i=xs.length:=by omega
 have Y:=z7 Q V.out G σ (900000*xs.length) wr p (by omega) (by omega);clear p;go_wp2_with fail;go_fit Y;rintro e E ⟨rfl,h⟩;have d:Hid (ax D E G):=y.out.trans h;clear Y h;go_wp2_with fail;go_ret;have ab:=g.out.size;exact⟨rfl,g.out.trans ⟨d.out.os,d.out.tape,d.out.output,d.out.size,λk hk=>d.out.block k (by omega) λhn=>hn (m.out k hk)⟩⟩
theorem dM.later {xs:List Ac}(h:dM w v xs)(hb:Bl w w'):dM w' v xs:=by
 obtain⟨a,c,rfl,h⟩:=h;refine⟨a,c,rfl,h.imp id ?_⟩;rintro⟨b,d,rfl,f,e⟩;exact⟨b,d,rfl,h_ f hb.size,λi hi j u hu=>ae hb (e i hi j u hu)⟩
theorem Dc (n0 n1 n2 n3 n4 n5 n6:Int)(l:List Fl)(fa:Option Addr)(fc:Nat)(sv:Value)(xs:List Ac)(w:World)(hl:ay w (.slice fa l.length fc) l)(hn:(l.length+100)*64<=140737488355328)(hn0:l.length<1048576000)(hsz:∀f∈l,f.1.size<=maxLen)(hsv:dM w sv xs)(hok:∀a∈xs,a.Ok w)(hlen:xs.length<200000):
 c_ 11 #[dx n0 n1 n2 n3 n4 n5 n6,.slice fa l.length fc,sv] w λe w'=>e=.returned (.bool true)/\Bl w w':=by
 obtain⟨i,k,c,h,g,d⟩:=lu n0 n1 n2 n3 n4 n5 n6 l hn hn0 hsz;cases i
 ·refine xy _ l fa fc sv w n0 n1 n2 n3 n4 n5 n6 rfl ?_ λW hb=>nT n0 n1 n2 n3 n4 n5 n6 k c l fa fc W (hl.later hb) hn g d;obtain⟨a,b,e,_⟩:=hsv;exact⟨a,_,b,e⟩
 exact uO _ l fa fc sv xs w n0 n1 n2 n3 n4 n5 n6 rfl hsv hok hlen λW hb=>lw n0 n1 n2 n3 n4 n5 n6 k c l fa fc W (hl.later hb) (h rfl) hn g d
theorem BC (n0 n1 n2 n3 n4 n5 n6:Int)(l:List Fl)(fa:Option Addr)(fc:Nat)(sv:Value)(xs:List Ac)(w:World)(hl:ay w (.slice fa l.length fc) l)(hn:(l.length+100)*64<=140737488355328)(hn0:l.length<1048576000)(hsz:∀f∈l,f.1.size<=maxLen)(hsv:dM w sv xs)(hok:∀a∈xs,a.Ok w)(hlen:xs.length<200000):
 c_ 4 #[dx n0 n1 n2 n3 n4 n5 n6,.slice fa l.length fc,sv] w λe w'=>e=.returned (.bool true)/\Bl w w':=by
 have d:=af w (.cells #[I n0,I n1,I n2,I n3,I n4,I n5,I n6] 23);have i:=Dc n0 n1 n2 n3 n4 n5 n6 l fa fc sv xs _ (hl.later d) hn hn0 hsz (hsv.later d) (λa ha=>(hok a ha).later d) hlen;have j:=hd d;obtain⟨k,m,rfl,_⟩:=hsv;unfold dx at *;have b:=Bx.new w #[I n0,I n1,I n2,I n3,I n4,I n5,I n6] 23;have o:=b.c 0 (I n0);have p:=b.c 1 (I n1);have q:=b.c 2 (I n2);have r:=b.c 3 (I n3);have s:=b.c 4 (I n4);have t:=b.c 5 (I n5);have u:=b.c 6 (I n6);clear b d hl hok;go_enter func4,ntmps4;go_wp2_with fail;go_fit i;rintro e n ⟨rfl,g⟩;have h:=hd (aj j.out g);clear i g;go_wp2_with fail;go_ret;exact⟨rfl,h.out⟩
section
open Go.ChangeShapes Go.WideShapes Go.ChangeAt
variable{fuel k:Nat}{H α:Type}
theorem Ab:ownKnob prog.godebug=none:=by kernel_rfl
theorem dn:laidOutB prog=true:=by kernel_rfl
theorem Ae:prog.cellsOf 9=1:=by kernel_rfl
theorem Ag:prog.cellsOf 3=1:=by kernel_rfl
theorem BF:prog.cellsOf 4=1:=by kernel_rfl
theorem Df:prog.cellsOf 27=1:=by kernel_rfl
theorem BD:prog.cellsOf 80=2:=by kernel_rfl
theorem BE:prog.cellsOf 49=3:=by kernel_rfl
theorem De:prog.cellsOf 29=5:=by kernel_rfl
theorem gU (d:DataW H):1<=Rows.uptoBulk d:=by
 cases d with
 |lit l=>cases l<;>simp[Rows.uptoBulk]
 |nil=>simp[Rows.uptoBulk]
 |ptr d=>simp[Rows.uptoBulk]
 |slice elems spare=>simp[Rows.uptoBulk]
 |agg parts=>simp[Rows.uptoBulk]
 |iface t d=>simp[Rows.uptoBulk]
 |map entries=>simp[Rows.uptoBulk]
 |held h=>simp[Rows.uptoBulk]
theorem xz {d:DataW H}{l:List (DataW H)}(h:d∈l):Rows.uptoBulk d<=Rows.uptoBulkAll l:=by
 induction l with
 |nil=>cases h
 |cons x r ih=>
  simp only[Rows.uptoBulkAll];cases R_.1 h with
  |inl e=>subst e;omega
  |inr e=>have:=ih e;omega
theorem lx:∀{l:List (DataW H)},(∀d∈l,k<=Rows.uptoBulk d)->l.length*k<=Rows.uptoBulkAll l
 |[],_=>by simp[Rows.uptoBulkAll]
 |x::r,h=>by
  have h1:=h x D_
  have a:=lx (l:=r) λd hd=>h d (List.mem_cons_of_mem _ hd)
  simp only[Rows.uptoBulkAll,List.length_cons]
  rw[Nat.add_mul,Nat.one_mul]
  omega
theorem sS (l:List (DataW H)):l.length<=Rows.uptoBulkAll l:=by
 have:=lx (k:=1) (l:=l) λd _=>gU d;omega
theorem EG {l:List α}(h:l.length=2):∃a b,l=[a,b]:=by
 match l,h with
 |[a,b],_=>exact⟨a,b,rfl⟩
theorem EI {l:List α}(h:l.length=3):∃a b c,l=[a,b,c]:=by
 match l,h with
 |[a,b,c],_=>exact⟨a,b,c,rfl⟩
theorem EJ {l:List α}(h:l.length=5):∃a b c d e,l=[a,b,c,d,e]:=by
 match l,h with
 |[a,b,c,d,e],_=>exact⟨a,b,c,d,e,rfl⟩
theorem EH {l:List α}(h:l.length=7):∃a b c d e f g,l=[a,b,c,d,e,f,g]:=by
 match l,h with
 |[a,b,c,d,e,f,g],_=>exact⟨a,b,c,d,e,f,g,rfl⟩
section
variable {H : Type} {enc : TypeId × Value → H} {W : World}
theorem kC {x:Option (DataW H×List MemPlace)}(h:DataW.trod enc prog W 0 (λ_=>true) true n 9 [v]=x)(hx:x.isSome=true):∃s:ByteArray,v=.string s/\s.size<=maxLen:=by
 obtain⟨y,rfl⟩:=Option.isSome_iff_exists.1 hx;obtain⟨s,a,_,b⟩:=DataW.trod_string underlying9 h;exact⟨s,by simpa using a,b⟩
theorem eP {x:Option (DataW H×List MemPlace)}(h:DataW.trod enc prog W 0 (λ_=>true) true n 3 [v]=x)(hx:x.isSome=true):∃k:Int,v=I k/\-9223372036854775808<=k/\k<9223372036854775808:=by
 obtain⟨y,rfl⟩:=Option.isSome_iff_exists.1 hx;obtain⟨k,b,_,c⟩:=DataW.trod_int underlying3 h;refine⟨k,by simpa using b,?_⟩;have a:IntKind.i64.min=-9223372036854775808/\IntKind.i64.max=9223372036854775807:=by decide
 simp only[Lit.wf,Bool.and_eq_true,decide_eq_true_eq,a.1,a.2] at c;omega
theorem Ad {x:Option (DataW H×List MemPlace)}(h:DataW.trod enc prog W 0 (λ_=>true) true n 4 [v]=x)(hx:x.isSome=true):∃b:Bool,v=.bool b:=by
 obtain⟨y,rfl⟩:=Option.isSome_iff_exists.1 hx;obtain⟨b,a,_⟩:=DataW.trod_bool underlying4 h;exact⟨b,by simpa using a⟩
theorem Af {cs:List Value}{x:DataW H×List MemPlace}(hl:cs.length=2)(h:DataW.trod enc prog W 0 (λ_=>true) true n 80 cs=some x):∃s t:ByteArray,cs=[.string s,.string t]/\s.size<=maxLen:=by
 obtain⟨g,k,i,f,_,a,d⟩:=DataW.trod_struct underlying80 h;obtain⟨o,p,rfl⟩:=EG (l:=g) (by simpa using a);obtain⟨j,m,rfl⟩:=EG hl;have b:=d 0 _ rfl;have c:=d 1 _ rfl;simp[Ae] at b c;obtain⟨s,rfl,e⟩:=kC b rfl;obtain⟨t,rfl,_⟩:=kC c rfl;exact⟨s,t,rfl,e⟩
theorem uP {cs:List Value}{x:DataW H×List MemPlace}(hl:cs.length=3)(h:DataW.trod enc prog W 0 (λ_=>true) true n 49 cs=some x):∃s t u:ByteArray,cs=[.string s,.string t,.string u]:=by
 obtain⟨g,k,i,f,_,b,a⟩:=DataW.trod_struct underlying49 h;obtain⟨p,q,r,rfl⟩:=EI (l:=g) (by simpa using b);obtain⟨j,m,o,rfl⟩:=EI hl;have c:=a 0 _ rfl;have d:=a 1 _ rfl;have e:=a 2 _ rfl;simp[Ae] at c d e;obtain⟨s,rfl,_⟩:=kC c rfl;obtain⟨t,rfl,_⟩:=kC d rfl;obtain⟨u,rfl,_⟩:=kC e rfl;exact⟨s,t,u,rfl⟩
theorem uQ {cs:List Value}{x:DataW H×List MemPlace}(hl:cs.length=7)(h:DataW.trod enc prog W 0 (λ_=>true) true n 23 cs=some x):∃n0 n1 n2 n3 n4 n5 n6:Int,cs=[I n0,I n1,I n2,I n3,I n4,I n5,I n6]:=by
 obtain⟨v,k,w,u,_,b,a⟩:=DataW.trod_struct underlying23 h;obtain⟨F,G,J,K,L,M,N,rfl⟩:=EH (l:=v) (by simpa using b);obtain⟨y,z,A,B,C,D,E,rfl⟩:=EH hl;have c:=a 0 _ rfl;have d:=a 1 _ rfl;have e:=a 2 _ rfl;have f:=a 3 _ rfl;have g:=a 4 _ rfl;have i:=a 5 _ rfl;have j:=a 6 _ rfl;simp[Ag] at c d e f g i j;obtain⟨n0,rfl,m⟩:=eP c rfl;obtain⟨n1,rfl,o⟩:=eP d rfl;obtain⟨n2,rfl,p⟩:=eP e rfl;obtain⟨n3,rfl,q⟩:=eP f rfl;obtain⟨n4,rfl,r⟩:=eP g rfl;obtain⟨n5,rfl,s⟩:=eP i rfl;obtain⟨n6,rfl,t⟩:=eP j rfl;exact⟨n0,n1,n2,n3,n4,n5,n6,rfl⟩
theorem sR {x:DataW H×List MemPlace}(hf:DataW.trod enc prog W 0 (λ_=>true) true fuel 24 [v]=some x):
 ∃(l:List Fl) (a:Option Addr) (cap:Nat),v=.slice a l.length cap/\ay W v l/\(∀f∈l,f.1.size<=maxLen)/\l.length<=Rows.uptoBulk x.1:=by
 rcases Deep.open_slice underlying24 hf with ⟨d,E⟩|⟨a,c,cap,m,n,D,L,d,_,N,O,z,E,C⟩
 ·obtain rfl:v=Zn:=by simpa using d
  exact⟨[],none,0,rfl,.inl ⟨rfl,_,_,rfl⟩,λf h=>by simp at h,k_ _⟩
 obtain rfl:v=.slice (some a) c cap:=by simpa using d
 simp only[if_true] at z;rw[BD] at C
 have g:∀i,i<c->∃q:Fl,W.cell? (a.add (i*2))=some (.string q.1)/\W.cell? ((a.add (i*2)).add 1)=some (.string q.2)/\q.1.size<=maxLen:=λi hil=>by
  obtain⟨M,I,J⟩:=C i (by omega);obtain⟨_,k,A⟩:=World.cells?_some I;obtain⟨s,t,rfl,K⟩:=Af k J;have F:=A 0 (by omega);have G:=A 1 (by omega);exact⟨(s,t),by simpa[Addr.add] using F,by simpa using G,K⟩
 obtain⟨q,p⟩:=Deep.choose_lt (α:=Fl) g;have j:((List.range c).map q).length=c:=by simp
 have B:∀i (h:i<((List.range c).map q).length),((List.range c).map q)[i]=q i:=λi h=>by simp
 refine⟨(List.range c).map q,some a,cap,by rw[j],?_,λf hf=>?_,?_⟩
 ·by_cases h0:c=0
  ·subst h0;exact .inl ⟨rfl,_,_,rfl⟩
  obtain⟨b,r,u⟩:=a;have e:u=none:=by simpa[Addr.add] using World.cell?_spot (p 0 (by omega)).1
  subst e;have w:=l7 (o:=r) (by simpa[Addr.add] using (p 0 (by omega)).1);refine .inr ⟨b,r,cap,by rw[j],w,λi h=>?_,λi h=>?_⟩
  ·have:=(p i (by rw[j] at h;exact h)).1;rw[B i h,<-this,add_plain]
  have:=(p i (by rw[j] at h;exact h)).2.1;rw[B i h,<-this,add_plain,add_plain]
 ·obtain⟨i,y,rfl⟩:=q_.1 hf;exact(p i (List.mem_range.1 y)).2.2
 rw[E,j];have:=sS ((List.range c).map D);simp only[Rows.uptoBulk];simp at this;omega
theorem Aa {x:DataW H×List MemPlace}(hf:DataW.trod enc prog W 0 (λ_=>true) true fuel 27 [v]=some x):
 ∃(l:List Ed) (a:Option Addr) (cap:Nat),v=.slice a l.length cap/\aH W v l/\l.length<=Rows.uptoBulk x.1:=by
 rcases Deep.open_slice underlying27 hf with ⟨d,C⟩|⟨a,c,cap,m,n,D,K,d,_,M,N,A,C,B⟩
 ·obtain rfl:v=Zn:=by simpa using d
  exact⟨[],none,0,rfl,.inl ⟨rfl,_,_,rfl⟩,k_ _⟩
 obtain rfl:v=.slice (some a) c cap:=by simpa using d
 simp only[if_true] at A;rw[BE] at B
 have g:∀i,i<c->∃q:Ed,W.cell? (a.add (i*3))=some (.string q.1)/\W.cell? ((a.add (i*3)).add 1)=some (.string q.2.1)/\W.cell? ((a.add (i*3)).add 2)=some (.string q.2.2):=λi hil=>by
  obtain⟨L,I,J⟩:=B i (by omega);obtain⟨_,j,y⟩:=World.cells?_some I;obtain⟨s,t,u,rfl⟩:=uP j J;have E:=y 0 (by omega);have F:=y 1 (by omega);have G:=y 2 (by omega);exact⟨(s,t,u),by simpa[Addr.add] using E,by simpa using F,by simpa using G⟩
 obtain⟨q,k⟩:=Deep.choose_lt (α:=Ed) g;have f:((List.range c).map q).length=c:=by simp
 have z:∀i (h:i<((List.range c).map q).length),((List.range c).map q)[i]=q i:=λi h=>by simp
 refine⟨(List.range c).map q,some a,cap,by rw[f],?_,?_⟩
 ·by_cases h0:c=0
  ·subst h0;exact .inl ⟨rfl,_,_,rfl⟩
  obtain⟨b,p,r⟩:=a;have e:r=none:=by simpa[Addr.add] using World.cell?_spot (k 0 (by omega)).1
  subst e;have w:=l7 (o:=p) (by simpa[Addr.add] using (k 0 (by omega)).1);refine .inr ⟨b,p,cap,by rw[f],w,λi h=>?_,λi h=>?_,λi h=>?_⟩
  ·have:=(k i (by rw[f] at h;exact h)).1;rw[z i h,<-this,add_plain]
  ·have:=(k i (by rw[f] at h;exact h)).2.1;rw[z i h,<-this,add_plain,add_plain]
  have:=(k i (by rw[f] at h;exact h)).2.2;rw[z i h,<-this,add_plain,add_plain]
 rw[C,f];have:=sS ((List.range c).map D);simp only[Rows.uptoBulk];simp at this;omega
theorem Dd {cs:List Value}{x:DataW H×List MemPlace}(hl:cs.length=5)(h:DataW.trod enc prog W 0 (λ_=>true) true n 29 cs=some x):∃a:Ac,cs=cA a/\aH W (.slice a.ea a.es.length a.ec) a.es/\a.es.length<=Rows.uptoBulk x.1/\6<=Rows.uptoBulk x.1/\(-9223372036854775808<=a.id/\a.id<9223372036854775808):=by
 obtain⟨G,k,I,f,_,d,b⟩:=DataW.trod_struct underlying29 h;obtain⟨q,r,s,t,u,rfl⟩:=EJ (l:=G) (by simpa using d);obtain⟨J,K,L,M,N,rfl⟩:=EJ hl;have i:=b 0 _ rfl;have j:=b 1 _ rfl;have m:=b 2 _ rfl;have o:=b 3 _ rfl;have p:=b 4 _ rfl;simp[Ag,BF,Df] at i j m o p;obtain⟨D,rfl,B⟩:=eP i rfl;obtain⟨E,rfl,c⟩:=eP j rfl;obtain⟨F,rfl,C⟩:=eP m rfl;obtain⟨v,rfl⟩:=Ad o rfl;obtain⟨g,w,y,rfl,z,A⟩:=Aa p
 have e:Rows.uptoBulk x.1=Rows.uptoBulk q.1+(Rows.uptoBulk r.1+(Rows.uptoBulk s.1+(Rows.uptoBulk t.1+Rows.uptoBulk u.1)))+1:=by
  rw[f];simp[Rows.uptoBulk,Rows.uptoBulkAll]
 have:=gU q.1;have:=gU r.1;have:=gU s.1;have:=gU t.1;have:=gU u.1;exact⟨⟨D,E,F,v,g,w,y⟩,rfl,z,by show g.length<=_;omega,by omega,c⟩
theorem qK {x:DataW H×List MemPlace}(hf:DataW.trod enc prog W 0 (λ_=>true) true fuel 25 [v]=some x):
 ∃l:List Ac,dM W v l/\(∀a∈l,aH W (.slice a.ea a.es.length a.ec) a.es/\a.es.length<=Rows.uptoBulk x.1/\(-9223372036854775808<=a.id/\a.id<9223372036854775808))/\l.length*6<=Rows.uptoBulk x.1:=by
 rcases Deep.open_slice underlying25 hf with ⟨g,J⟩|⟨a,e,p,m,n,D,T,g,_,V,X,E,J,I⟩
 ·obtain rfl:v=Zn:=by simpa using g
  exact⟨[],⟨none,0,rfl,.inl rfl⟩,λa h=>by simp at h,by simp⟩
 obtain rfl:v=.slice (some a) e p:=by simpa using g
 simp only[if_true] at E;rw[De] at I
 have r:∀i,i<e->∃q:Ac,(∀j u,(cA q)[j]? =some u->W.cell? ((a.add (i*5)).add j)=some u)/\aH W (.slice q.ea q.es.length q.ec) q.es/\q.es.length<=Rows.uptoBulk (D i)/\6<=Rows.uptoBulk (D i)/\(-9223372036854775808<=q.id/\q.id<9223372036854775808):=λi hil=>by
  obtain⟨U,y,G⟩:=I i (by omega);obtain⟨_,s,C⟩:=World.cells?_some y;obtain⟨q,rfl,O,K,L,M⟩:=Dd s G;refine⟨q,λj u hu=>?_,O,K,L,M⟩
  have Q:j<5:=by
   have:=(N_.1 hu).1;simpa[cA] using this
  have:=C j Q;rw[this];exact hu
 have S:Inhabited Ac:=⟨⟨0,0,0,false,[],none,0⟩⟩;obtain⟨q,z⟩:=Deep.choose_lt (α:=Ac) r;have A:((List.range e).map q).length=e:=by simp
 have P:∀i (h:i<((List.range e).map q).length),((List.range e).map q)[i]=q i:=λi h=>by simp
 have N:((List.range e).map D).length*6<=Rows.uptoBulkAll ((List.range e).map D):=lx λd hd=>by
  obtain⟨i,f,rfl⟩:=q_.1 hd;exact(z i (List.mem_range.1 f)).2.2.2.1
 have R:Rows.uptoBulkAll ((List.range e).map D)<=Rows.uptoBulk x.1:=by
  rw[J];simp only[Rows.uptoBulk];omega
 refine⟨(List.range e).map q,⟨some a,p,by rw[A],?_⟩,λc C=>?_,?_⟩
 ·by_cases h0:e=0
  ·subst h0;exact .inl rfl
  obtain⟨b,t,w⟩:=a;have F:=(z 0 (by omega)).1 0 _ rfl;have k:w=none:=by simpa[Addr.add] using World.cell?_spot F
  subst k;have B:b<W.heap.size:=l7 (o:=t) (by simpa[Addr.add] using F);refine .inr ⟨b,t,rfl,B,λi h j u hu=>?_⟩;rw[P i h] at hu;have:=(z i (by rw[A] at h;exact h)).1 j u hu;rw[<-this,add_plain,add_plain]
 ·obtain⟨i,f,rfl⟩:=q_.1 C;have y:=z i (List.mem_range.1 f);have G:Rows.uptoBulk (D i)<=Rows.uptoBulkAll ((List.range e).map D):=xz (x_ f);exact⟨y.2.1,by omega,y.2.2.2.2⟩
 rw[A];simp at N;omega
end
end
variable{M M' m n':Nat}{σ':Sg}{w0 w1 w2:World}
theorem ar.beside {H:Nat->Prop}(h:ar w Q G σ τ N)(hK:ax w w' H)(hall:∀k,k<w.heap.size->H k\/G k)(hw:H Q.wb):ar w' Q (aX G w w') σ τ N:=by
 obtain⟨X,R,K,h⟩:=h;have c:ai w w' (λk=>¬H k):=hK;have d:=c.size;refine⟨X,R,K,h.box.kept c λn=>n hw,h.p.only c λk hX n=>?_,h.r.only c λk hR n=>?_,h.b.only c λk a n=>?_,h.xr,h.xk,h.rk,λk a=>?_,.inl h.gw,h.okp,h.okr⟩
 ·exact(hall k (h.p.xl k hX)).elim n λhG=>(h.gg k hG).1 hX
 ·exact(hall k (h.r.rl k hR)).elim n λhG=>(h.gg k hG).2.1 hR
 ·exact(hall k (h.b.kl k a)).elim n λhG=>(h.gg k hG).2.2.1 a
 rcases a with a|a
 ·exact⟨(h.gg k a).1,(h.gg k a).2.1,(h.gg k a).2.2.1,h_ (h.gg k a).2.2.2 d⟩
 exact⟨λe=>by have:=h.p.xl k e;omega,λe=>by have:=h.r.rl k e;omega,λe=>by have:=h.b.kl k e;omega,a.2⟩
structure Two (w:World)(P Q:Pq)(base:Nat)(G H:Nat->Prop)(σ τ:Sg)(M N:Nat):Prop where
 one:ar w P G σ σ M
 two:ar w Q H τ τ N
 all:∀k,k<w.heap.size->G k\/H k
 low:∀k,k<base->G k/\H k
 pw:H P.wb
 qw:G Q.wb
theorem Two.swap {P:Pq}{H:Nat->Prop}(h:Two w P Q base G H σ τ M N):Two w Q P base H G τ σ N M:=⟨h.two,h.one,λk hk=>(h.all k hk).symm,λk hk=>(h.low k hk).symm,h.qw,h.pw⟩
theorem Two.step {P:Pq}{H:Nat->Prop}(h:Two w P Q base G H σ τ M N)(h1:ar w' P G σ' σ' M')(hK:ax w w' G):Two w' P Q base G (aX H w w') σ' τ M' N:=
 ⟨h1,h.two.beside hK h.all h.qw,λk hk=>by
  by_cases hl:k<w.heap.size
  ·exact(h.all k hl).imp id .inl
  exact .inr (.inr ⟨by omega,hk⟩),λk hk=>⟨(h.low k hk).1,.inl (h.low k hk).2⟩,.inl h.pw,h.qw⟩
theorem Two.later {P:Pq}{H:Nat->Prop}(h:Two w P Q base G H σ τ M N)(hb:Bl w w'):Two w' P Q base G (aX H w w') σ τ M N:=h.step (h.one.later hb) (ax.of_below hb)
def fI (w0 w:World)(P Q:Pq)(n n' N N':Nat):Prop:=∃G H σ τ,Two w P Q w0.heap.size G H σ τ N N'/\σ.rs.length<=n/\τ.rs.length<=n'/\Bl w0 w
theorem fI.more {P:Pq}{m':Nat}(h:fI w0 w P Q n n' N N')(hn:n<=m/\n'<=m'/\N<=M/\N'<=M'):fI w0 w P Q m m' M M':=by
 obtain⟨G,H,σ,τ,a,c,d,b⟩:=h;exact⟨G,H,σ,τ,⟨a.one.more hn.2.2.1,a.two.more hn.2.2.2,a.all,a.low,a.pw,a.qw⟩,by omega,by omega,b⟩
theorem fI.swap {P:Pq}(h:fI w0 w P Q n n' N N'):fI w0 w Q P n' n N' N:=by
 obtain⟨G,H,σ,τ,c,a,b,d⟩:=h;exact⟨H,G,τ,σ,c.swap,b,a,d⟩
theorem fI.later {P:Pq}(h:fI w0 w P Q n n' N N')(hb':Bl w w'):fI w0 w' P Q n n' N N':=by
 obtain⟨G,H,σ,τ,d,b,c,a⟩:=h;exact⟨G,_,σ,τ,d.later hb',b,c,a.trans (hb'.mono a.size)⟩
theorem fI.below {P:Pq}(h:fI w0 w P Q n n' N N'):Bl w0 w:=by
 obtain⟨G,H,σ,τ,d,b,c,a⟩:=h;exact a
theorem ly (hb:Bl w0 w)(hl:∀k,k<w0.heap.size->G k)(hK:ax w w' G):Bl w0 w':=
 hb.trans ⟨hK.os,hK.tape,hK.output,hK.size,λk hk=>hK.block k (h_ hk hb.size) λhn=>hn (hl k hk)⟩
theorem fI.act {P:Pq}(h:fI w0 w P Q n n' N N')(hP:P.Ok)(hn:n<200100)(hN:N<549000000000)(a:Ac)(ha:a.Ok w0):
 c_ 13 #[Px P.wb,.agg #[I a.kind,I a.id,I a.lane,.bool a.pass,.slice a.ea a.es.length a.ec]] w λe w'=>e=.returned (.bool true)/\fI w0 w' P Q (n+1) n' (N+900000) N':=by
 obtain⟨G,H,σ,τ,d,j,i,g⟩:=h;have b:∀k,k<w0.heap.size->G k:=λk hk=>(d.low k hk).1;refine(ED P hP G σ N a.kind a.id a.lane a.pass a.es a.ea a.ec w d.one (by omega) hN ha.rg (ha.ed.later g) (λh0 q hq=>b q (eO ha.ed h0 q hq)) ha.sm).mono ?_;rintro e w' ⟨rfl,⟨σ',c,l⟩,f⟩;exact⟨rfl,G,_,σ',τ,d.step c f,by omega,i,ly g b f⟩
theorem fI.looks {P:Pq}(h:fI w0 w P Q n n' N N'):
 c_ 14 #[Px P.bb] w λe w'=>e=.returned (.bool true)/\Bl w w':=by
 obtain⟨G,H,σ,τ,a,b,c,d⟩:=h;exact a.one.askB λK hB=>uB K P.bb _ w hB
theorem fI.box {P:Pq}(h:fI w0 w P Q n n' N N'):w.cell? ⟨P.wb,2,none⟩=some (Px P.bb):=by
 obtain⟨G,H,σ,τ,a,b,c,d⟩:=h;exact a.one.box.cell (i:=2) rfl
theorem fI.last {P:Pq}(h:fI w0 w P Q n n' N N')(hP:P.Ok)(hQ:Q.Ok)(hn:n<200000/\n'<200000)(hN:N<548000000000/\N'<548000000000):
 c_ 15 #[Px P.wb] w λe w'=>e=.returned (.bool true)/\c_ 15 #[Px Q.wb] w' λe w''=>e=.returned (.bool true)/\Bl w0 w'':=by
 obtain⟨G,H,σ,τ,a,g,i,f⟩:=h;refine(z7 P hP G σ N w a.one (by omega) hN.1).mono ?_;rintro e w' ⟨rfl,d⟩;refine⟨rfl,?_⟩;have c:=ly f (λk hk=>(a.low k hk).1) d;refine(z7 Q hQ _ τ N' w' (a.two.beside d a.all a.qw) (by omega) hN.2).mono ?_;rintro e w'' ⟨rfl,b⟩;exact⟨rfl,ly c (λk hk=>.inl (a.low k hk).2) b⟩
theorem fI.start {P:Pq}{W0 W1:World}(h1:ar w1 P (λk=>k<W0.heap.size\/k=P.wb) Sg.start Sg.start 0)(h2:ar w2 Q (λk=>k<W1.heap.size\/k=Q.wb) Sg.start Sg.start 0)(hl0:w0.heap.size<=W0.heap.size)(hb0:Bl w0 w1)(hb:Bl w1 w2)(hW:W1.heap.size=w1.heap.size)(hq:W1.heap.size<=Q.wb):fI w0 w2 P Q 0 0 0 0:=by
 have b:=h1.widen hb;have c:=h1.gl _ h1.gw;have a:=h2.gl _ h2.gw;have d:=hb0.size;refine⟨_,_,_,_,⟨b,h2,λk hk=>?_,λk hk=>⟨.inl (.inl (by omega)),.inl (by omega)⟩,.inl (by omega),.inr ⟨by omega,a⟩⟩,b_ _,b_ _,hb0.trans (hb.mono hb0.size)⟩;by_cases hk1:k<w1.heap.size
 ·exact .inr (.inl (by omega))
 exact .inl (.inr ⟨by omega,hk⟩)
variable{sc:Nat}
theorem bW.any {e:Ending}{b:Bool}(h:bW w w' e l b):∃p,e=.returned (.tuple #[.pointer p,.bool true]):=by
 cases b
 ·exact⟨_,h⟩
 obtain⟨Q,_,h,_⟩:=h;exact⟨_,h⟩
theorem pB (w:World)(cs ds:Array Value)(t:TypeId):Bl w ((w.alloc (.cells cs t)).alloc (.cells ds t))/\Bx ((w.alloc (.cells cs t)).alloc (.cells ds t)) w.heap.size t cs/\Bx ((w.alloc (.cells cs t)).alloc (.cells ds t)) (w.heap.size+1) t ds:=by
 have a:=Bx.new (w.alloc (.cells cs t)) ds t;rw[show (w.alloc (.cells cs t)).heap.size=w.heap.size+1 by simp] at a;exact⟨aj (af _ _) (af _ _),(Bx.new w cs t).later (af _ _),a⟩
theorem pA (l:List Fl)(fa:Option Addr)(fc:Nat)(sv tv:Value)(w:World)(n0 n1 n2 n3 n4 n5 n6 m0 m1 m2 m3 m4 m5 m6:Int)(hsv:bD sv)(htv:bD tv)(b1 b2:Bool)(hbb:b1=false\/b2=false)(hM:∀W,Bl w W->c_ 12 #[dx n0 n1 n2 n3 n4 n5 n6,.slice fa l.length fc] W λe w'=>bW W w' e l b1/\Bl W w')(hN:∀W,Bl w W->c_ 12 #[dx m0 m1 m2 m3 m4 m5 m6,Zn] W λe w'=>bW W w' e [] b2/\Bl W w'):
 c_ 5 #[dx n0 n1 n2 n3 n4 n5 n6,dx m0 m1 m2 m3 m4 m5 m6,.slice fa l.length fc,sv,tv] w λe w'=>e=.returned (.bool true)/\Bl w w':=by
 obtain⟨F,H,G,rfl⟩:=hsv;obtain⟨J,L,K,rfl⟩:=htv;unfold dx at *;obtain⟨i,f,s⟩:=pB w #[I n0,I n1,I n2,I n3,I n4,I n5,I n6] #[I m0,I m1,I m2,I m3,I m4,I m5,I m6] 23;have x:=f.c 0 (I n0);have y:=f.c 1 (I n1);have z:=f.c 2 (I n2);have A:=f.c 3 (I n3);have B:=f.c 4 (I n4);have C:=f.c 5 (I n5);have D:=f.c 6 (I n6);have t:=hM _ i;have n:=cZ i;have o:=cZ s;have r:=hd hN;clear hM hN f s i;go_enter func5,ntmps5;go_wp2_with fail;generalize (w.alloc (.cells #[I n0,I n1,I n2,I n3,I n4,I n5,I n6] 23)).alloc (.cells #[I m0,I m1,I m2,I m3,I m4,I m5,I m6] 23)=E at *;go_fit t;rintro e v ⟨q,j⟩;have d:=aj n.out j;have k:=r.out v d;have g:=o.out.later j;have M:=g.c 0 (I m0);have N:=g.c 1 (I m1);have O:=g.c 2 (I m2);have P:=g.c 3 (I m3);have Q:=g.c 4 (I m4);have R:=g.c 5 (I m5);have S:=g.c 6 (I m6);have h:=cZ d;clear t j d r g x y z A B C D;rcases hbb with rfl|rfl
 ·obtain rfl:e=.returned (.tuple #[.pointer none,.bool true]):=q;go_wp2_with fail;go_fit k;rintro e u ⟨m,a⟩;obtain⟨p,rfl⟩:=m.any;have b:=cZ (aj h.out a);clear k a m;go_wp2_with fail;go_ret;exact⟨rfl,b.out⟩
 obtain⟨p,rfl⟩:=q.any;clear q;unfold bW at k;cases p with
 |none=>
  go_wp2_with fail;go_fit k;rintro e u ⟨rfl,a⟩;have b:=cZ (aj h.out a);clear k a;go_wp2_with fail;go_ret;exact⟨rfl,b.out⟩
 |some p=>
  go_wp2_with fail;go_fit k;rintro e u ⟨rfl,a⟩;have b:=cZ (aj h.out a);clear k a;go_wp2_with fail;go_ret;exact⟨rfl,b.out⟩
theorem dM.read {sa:Option Addr}{xs:List Ac}(h:dM w (.slice sa xs.length sc) xs){i:Nat}(hi:i<xs.length):∃b off,sa=some ⟨b,off,none⟩/\b<w.heap.size/\w.cell? ⟨b,off+i*5,none⟩=some (I xs[i].kind)/\w.cell? ⟨b,off+i*5+1,none⟩=some (I xs[i].id)/\w.cell? ⟨b,off+i*5+2,none⟩=some (I xs[i].lane)/\w.cell? ⟨b,off+i*5+3,none⟩=some (.bool xs[i].pass)/\w.cell? ⟨b,off+i*5+4,none⟩=some (.slice xs[i].ea xs[i].es.length xs[i].ec):=by
 obtain⟨a,d,e,h⟩:=h;cases e
 rcases h with rfl|⟨b,off,rfl,f,c⟩
 ·simp at hi
 exact⟨b,off,rfl,f,c i hi 0 _ rfl,c i hi 1 _ rfl,c i hi 2 _ rfl,c i hi 3 _ rfl,c i hi 4 _ rfl⟩
theorem uR (l:List Fl)(fa:Option Addr)(fc:Nat)(sv tv:Value)(xs ys:List Ac)(w:World)(n0 n1 n2 n3 n4 n5 n6 m0 m1 m2 m3 m4 m5 m6:Int)(hsv:dM w sv xs)(htv:dM w tv ys)(hok:∀a∈xs,a.Ok w)(hok2:∀a∈ys,a.Ok w)(hlen:xs.length<200000)(hlen2:ys.length<200000)(hM:∀W,Bl w W->c_ 12 #[dx n0 n1 n2 n3 n4 n5 n6,.slice fa l.length fc] W λe w'=>bW W w' e l true/\Bl W w')(hN:∀W,Bl w W->c_ 12 #[dx m0 m1 m2 m3 m4 m5 m6,Zn] W λe w'=>bW W w' e [] true/\Bl W w'):
 c_ 5 #[dx n0 n1 n2 n3 n4 n5 n6,dx m0 m1 m2 m3 m4 m5 m6,.slice fa l.length fc,sv,tv] w λe w'=>e=.returned (.bool true)/\Bl w w':=by
 obtain⟨sa,sc,rfl,hS⟩:=hsv;obtain⟨ta,tc,rfl,hT⟩:=htv;have HS:Hid (dM w (.slice sa xs.length sc) xs):=⟨sa,sc,rfl,hS⟩;have HT:Hid (dM w (.slice ta ys.length tc) ys):=⟨ta,tc,rfl,hT⟩;have aa:=hd hok;have q:=hd hok2;clear hS hT hok hok2;unfold dx at *;unfold bW at hM hN;obtain⟨B,r,Y0⟩:=pB w #[I n0,I n1,I n2,I n3,I n4,I n5,I n6] #[I m0,I m1,I m2,I m3,I m4,I m5,I m6] 23;have x0:=r.c 0 (I n0);have x1:=r.c 1 (I n1);have x2:=r.c 2 (I n2);have x3:=r.c 3 (I n3);have x4:=r.c 4 (I n4);have x5:=r.c 5 (I n5);have x6:=r.c 6 (I n6);have hm:=hM _ B;have E:=cZ B;have G:=cZ Y0;have HN:=cZ hN;clear hM hN r Y0 B;go_enter func5,ntmps5;go_wp2_with fail;generalize (w.alloc (.cells #[I n0,I n1,I n2,I n3,I n4,I n5,I n6] 23)).alloc (.cells #[I m0,I m1,I m2,I m3,I m4,I m5,I m6] 23)=W0 at *;go_fit hm;rintro e w1 ⟨⟨P,hP,rfl,_,_,hp⟩,C⟩;have p:=aj E.out C;have hn:=HN.out w1 p;have s:=G.out.later C;have y0:=s.c 0 (I m0);have y1:=s.c 1 (I m1);have y2:=s.c 2 (I m2);have y3:=s.c 3 (I m3);have y4:=s.c 4 (I m4);have y5:=s.c 5 (I m5);have y6:=s.c 6 (I m6);have Y:=cZ p;have HP:=cZ hP;have Hp:=cZ hp;clear hm C p HN s x0 x1 x2 x3 x4 x5 x6 hP hp G;go_wp2_with fail;go_fit hn;rintro e w2 ⟨⟨Q,hQ,rfl,_,U,hq⟩,R⟩;have HQ:=cZ hQ;have F:=hd (fI.start Hp.out hq E.out.size Y.out R rfl U);clear hn R hq U hQ y0 y1 y2 y3 y4 y5 y6 Hp;go_wp2_with fail;go_loopw [12,15,16,17] (λov iv _ _ wr=>∃i:Nat,i<=200000/\ov=.bool true/\iv=I i/\(i<=xs.length\/i<=ys.length)/\Hid (fI w wr P Q i i (900000*i) (900000*i))) (λ_ i _ _ _=>xs.length+ys.length-(intOf i).toNat)
 case atStart=>exact⟨0,k_ _,rfl,rfl,.inl (k_ _),F⟩
 clear F;obtain⟨i,ad,rfl,rfl,ah,b⟩:=hrel;by_cases hlt:i<xs.length\/i<ys.length
 ·by_cases h1:i<xs.length
  ·obtain⟨D,ac,rfl,ab,u,v,x,y,z⟩:=HS.out.read h1;have H:=ae b.out.below u;have J:=ae b.out.below v;have K:=ae b.out.below x;have L:=ae b.out.below y;have M:=ae b.out.below z;have t:=b.out.act HP.out (by omega) (by omega) xs[i] (aa.out _ (i_ h1));clear u v x y z;generalize xs[i].kind=z0 at *;generalize xs[i].id=z1 at *;generalize xs[i].lane=z2 at *;generalize xs[i].pass=z3 at *;generalize xs[i].es.length=z4 at *;generalize xs[i].ea=z5 at *;generalize xs[i].ec=z6 at *;go_wp2_with fail;go_fit t;rintro e wz ⟨rfl,j⟩;have b:=hd j;clear j t H J K L M;by_cases N:i<ys.length
   ·obtain⟨A,V,rfl,T,u,v,x,y,z⟩:=HT.out.read N;have H:=ae b.out.below u;have J:=ae b.out.below v;have K:=ae b.out.below x;have L:=ae b.out.below y;have M:=ae b.out.below z;have t:=b.out.swap.act HQ.out (by omega) (by omega) ys[i] (q.out _ (i_ N));clear u v x y z;generalize ys[i].kind=z0 at *;generalize ys[i].id=z1 at *;generalize ys[i].lane=z2 at *;generalize ys[i].pass=z3 at *;generalize ys[i].es.length=z4 at *;generalize ys[i].ea=z5 at *;generalize ys[i].ec=z6 at *;go_wp2_with fail;go_fit t;rintro e wy ⟨rfl,j⟩;have f:Hid (fI w wy P Q (i+1) (i+1) (900000*i+900000) (900000*i+900000)):=j.swap;clear j;have D:=f.out.box;have n:=f.out.looks;clear t H J K L M b;go_wp2_with fail;go_fit n;rintro e w5 ⟨rfl,k⟩;have d:=hd (f.out.later k);have A:=d.out.swap.box;have g:=d.out.swap.looks;clear n k D f;go_wp2_with fail;go_fit g;rintro e X ⟨rfl,m⟩;have o:Hid (fI w X P Q (i+1) (i+1) (900000*(i+1)) (900000*(i+1))):=(d.out.later m).more (by omega);clear g m A d;go_wp2_with fail;exact⟨⟨i+1,by omega,rfl,by go_num,by omega,o⟩,by simp[intOf];omega⟩
   have f:Hid (fI w wz P Q (i+1) (i+1) (900000*i+900000) (900000*i+900000)):=b.out.more (by omega);have D:=f.out.box;have n:=f.out.looks;clear b;go_wp2_with fail;go_fit n;rintro e w5 ⟨rfl,k⟩;have d:=hd (f.out.later k);have A:=d.out.swap.box;have g:=d.out.swap.looks;clear n k D f;go_wp2_with fail;go_fit g;rintro e X ⟨rfl,m⟩;have o:Hid (fI w X P Q (i+1) (i+1) (900000*(i+1)) (900000*(i+1))):=(d.out.later m).more (by omega);clear g m A d;go_wp2_with fail;exact⟨⟨i+1,by omega,rfl,by go_num,by omega,o⟩,by simp[intOf];omega⟩
  have N:=hlt.resolve_left h1;obtain⟨A,V,rfl,T,u,v,x,y,z⟩:=HT.out.read N;have H:=ae b.out.below u;have J:=ae b.out.below v;have K:=ae b.out.below x;have L:=ae b.out.below y;have M:=ae b.out.below z;have t:=b.out.swap.act HQ.out (by omega) (by omega) ys[i] (q.out _ (i_ N));clear u v x y z;generalize ys[i].kind=z0 at *;generalize ys[i].id=z1 at *;generalize ys[i].lane=z2 at *;generalize ys[i].pass=z3 at *;generalize ys[i].es.length=z4 at *;generalize ys[i].ea=z5 at *;generalize ys[i].ec=z6 at *;go_wp2_with fail;go_fit t;rintro e wy ⟨rfl,j⟩;have f:Hid (fI w wy P Q (i+1) (i+1) (900000*i+900000) (900000*i+900000)):=j.swap.more (by omega);clear j;have D:=f.out.box;have n:=f.out.looks;clear t H J K L M b;go_wp2_with fail;go_fit n;rintro e w5 ⟨rfl,k⟩;have d:=hd (f.out.later k);have A:=d.out.swap.box;have g:=d.out.swap.looks;clear n k D f;go_wp2_with fail;go_fit g;rintro e X ⟨rfl,m⟩;have o:Hid (fI w X P Q (i+1) (i+1) (900000*(i+1)) (900000*(i+1))):=(d.out.later m).more (by omega);clear g m A d;go_wp2_with fail;exact⟨⟨i+1,by omega,rfl,by go_num,by omega,o⟩,by simp[intOf];omega⟩
 have hL:=b.out.last HP.out HQ.out (by omega) (by omega);have af:¬i<xs.length:=λh=>hlt (.inl h);have ag:¬i<ys.length:=λh=>hlt (.inr h);clear hlt b;go_wp2_with fail;go_fit hL;rintro e w3 ⟨rfl,O⟩;clear hL;go_wp2_with fail;go_fit O;rintro e w4 ⟨rfl,S⟩;have Z:=cZ S;clear O S;go_wp2_with fail;go_ret;exact⟨rfl,Z.out⟩
theorem Dg (n0 n1 n2 n3 n4 n5 n6 m0 m1 m2 m3 m4 m5 m6:Int)(l:List Fl)(fa:Option Addr)(fc:Nat)(sv tv:Value)(xs ys:List Ac)(w:World)(hl:ay w (.slice fa l.length fc) l)(hn:(l.length+100)*64<=140737488355328)(hn0:l.length<1048576000)(hsz:∀f∈l,f.1.size<=maxLen)(hsv:dM w sv xs)(htv:dM w tv ys)(hok:∀a∈xs,a.Ok w)(hok2:∀a∈ys,a.Ok w)(hlen:xs.length<200000)(hlen2:ys.length<200000):
 c_ 5 #[dx n0 n1 n2 n3 n4 n5 n6,dx m0 m1 m2 m3 m4 m5 m6,.slice fa l.length fc,sv,tv] w λe w'=>e=.returned (.bool true)/\Bl w w':=by
 obtain⟨q,k,c,v,t,s⟩:=lu n0 n1 n2 n3 n4 n5 n6 l hn hn0 hsz;obtain⟨g,u,r,p,m,j⟩:=lu m0 m1 m2 m3 m4 m5 m6 [] (by decide) (by decide) (by simp);have b:∀W:World,ay W (.slice none ([]:List Fl).length 0) []:=λW=>.inl ⟨rfl,_,_,rfl⟩
 have n:∀W,Bl w W->c_ 12 #[dx n0 n1 n2 n3 n4 n5 n6,.slice fa l.length fc] W λe w'=>bW W w' e l q/\Bl W w':=λW hb=>by
  cases q
  ·exact nT n0 n1 n2 n3 n4 n5 n6 k c l fa fc W (hl.later hb) hn t s
  exact lw n0 n1 n2 n3 n4 n5 n6 k c l fa fc W (hl.later hb) (v rfl) hn t s
 have o:∀W,Bl w W->c_ 12 #[dx m0 m1 m2 m3 m4 m5 m6,Zn] W λe w'=>bW W w' e [] g/\Bl W w':=λW _=>by
  cases g
  ·exact nT m0 m1 m2 m3 m4 m5 m6 u r [] none 0 W (b W) (by decide) m j
  exact lw m0 m1 m2 m3 m4 m5 m6 u r [] none 0 W (b W) (p rfl) (by decide) m j
 have h:bD sv:=by
  obtain⟨a,d,e,_⟩:=hsv;exact⟨a,_,d,e⟩
 have i:bD tv:=by
  obtain⟨a,d,e,_⟩:=htv;exact⟨a,_,d,e⟩
 cases q
 ·exact pA l fa fc sv tv w n0 n1 n2 n3 n4 n5 n6 m0 m1 m2 m3 m4 m5 m6 h i _ _ (.inl rfl) n o
 cases g
 ·exact pA l fa fc sv tv w n0 n1 n2 n3 n4 n5 n6 m0 m1 m2 m3 m4 m5 m6 h i _ _ (.inr rfl) n o
 exact uR l fa fc sv tv xs ys w n0 n1 n2 n3 n4 n5 n6 m0 m1 m2 m3 m4 m5 m6 hsv htv hok hok2 hlen hlen2 n o
end
end Go.Proofs.YtgamgomepdfgdaaGreat
