import Derived.Deep.RegionLaw
import Derived.Laws.OwnMore
import Derived.Test.YtgamgomepdfgdaaGreatAM02
set_option maxRecDepth 100000
set_option maxHeartbeats 8000000
namespace Go.Proofs.YtgamgomepdfgdaaGreat
open Go.RowKit Go.Proofs.Tryz
section
variable{a:Act}{ops:Array Oper}{cs:Array Value}{xs:List Value}{b base n:Nat}{S S':Nat->Prop}{row:Option Nat}{P:Program}{E:Prop}{e t:TypeId}{v:Value}{w w' w1 w2:World}
structure ai (w w':World)(S:Nat->Prop):Prop where
 os:w'.os=w.os
 tape:w'.tape=w.tape
 output:w'.output=w.output
 size:w.heap.size<=w'.heap.size
 block:∀k,k<w.heap.size->¬S k->w'.heap[k]? =w.heap[k]?
theorem ai.refl (w:World)(S:Nat->Prop):ai w w S:=⟨rfl,rfl,rfl,b_ _,λ_ _ _=>rfl⟩
theorem ai.trans (h:ai w w1 S)(h2:ai w1 w2 S')(hS:∀k,S' k->S k\/w.heap.size<=k):ai w w2 S:=
 ⟨h2.os.trans h.os,h2.tape.trans h.tape,h2.output.trans h.output,e_ h.size h2.size,λk hk hs=>(h2.block k (h_ hk h.size) (λe=>by
  rcases hS k e with a|a
  ·exact hs a
  omega)).trans (h.block k hk hs)⟩
theorem ai.of_grown (h:w.grownBy w' row)(hS:∀k,row=some k->S k):ai w w' S:=
 ⟨h.os,h.tape,h.output,h.size,λk hk hs=>h.block k hk (λe=>hs (hS k e.symm))⟩
theorem ai.of_below (h:Bl w w'):ai w w' S:=⟨h.os,h.tape,h.output,h.size,λk hk _=>h.block k hk⟩
theorem Ap (nb id ln passed age:Nat)(ea:Option Addr)(en ec:Nat)(cs:Array Value)(w:World)(hB:Bx w nb 163 cs)(hage:cs[1]? =some (I age))(ha:1<=age/\age<9)(hl:ln<1000)(hp:passed<4611686018427387904):
 c_ 220 #[Px nb,.agg #[I id,I ln,I passed,.slice ea en ec]] w λe w'=>e=.returned (I ((ln-passed/age:Nat):Int))/\Bl w w':=by
 have j:=hB.cell hage;have f:((age:Int)==0)=false:=by simp;omega
 obtain⟨d,hd⟩:∃d,d=passed/age:=⟨_,rfl⟩;have m:Int.tdiv (passed:Int) (age:Int)=(d:Int):=by rw[hd,Int.ofNat_tdiv]
 have g:(passed:Int)/(age:Int)=(d:Int):=by rw[hd,Int.natCast_ediv]
 have l:d<=passed:=by rw[hd];exact Nat.div_le_self _ _
 rw[<-hd];clear hd;have n:IntKind.i64.wrap ((ln:Int)-d)=(ln:Int)-d:=wrap_i64 (by omega) (by omega);have i:wrap64 ((ln:Int)-d)=(ln:Int)-d:=by unfold wrap64;omega
 go_enter func220,ntmps220;go_wp2;go_region_held_law (λw'=>w'.cell? ⟨w.heap.size,1,none⟩=some (I ln)/\w'.cell? ⟨w.heap.size,2,none⟩=some (I passed)/\w'.cell? ⟨nb,1,none⟩=some (I age)) (go_keep) (fail);have a:Bl w (w.alloc (.cells #[I id,I ln,I passed,.slice ea en ec] 165)).drew:=⟨rfl,rfl,rfl,by simp,λk hk=>Below.heap_alloc _ _ _ hk⟩;by_cases h:ln<d
 ·have c:(ln:Int)-d<0:=by omega
  have b:((ln-d:Nat):Int)=0:=by omega
  go_wp2;go_ret;exact⟨by first|rfl|(rw[b];rfl),a⟩
 have c:¬((ln:Int)-d<0):=by omega
 have b:((ln-d:Nat):Int)=(ln:Int)-d:=by omega
 go_wp2;go_ret;exact⟨by first|rfl|(rw[b];rfl),a⟩
theorem aT {o:Oper}{K:Act->World->Prop}{Q:Exit->Act->World->Prop}(hg:o.guard=none)(s x:Operand)(t:TypeId)(ho:o.op=Op.call {callee:=Callee.builtin Builtin.append,args:=#[s,x],argTypes:=#[t,t]})(base:Nat)(e:TypeId)(i:TypeInfo)(z:Value)(size bytes:Nat)(ht:P.underlying t=some (.slice e))(hi:P.info? e=some i)(hz:i.zero=some z)(hsize:i.size=size)(hby:i.bytes=bytes)(hzs:z.cells.size=size)(hsz:0<size)(v:Value)(n:Nat)(xs:List Value)(hs:a.eval s=v)(hown:w.ownsRow base e size v n xs)(ad:Addr)(m c:Nat)(aQ:List Value)(hx:a.eval x=.slice (some ad) m c)(hl:aQ.length=m*size)(hnews:∀j u,aQ[j]? =some u->w.cell? (ad.add j)=some u)(h1:∀u∈aQ,u.oneCell'=true)(h63:n+m<=maxLen)(hbytes:(n+m)*bytes<=140737488355328)(hbase:base<=w.heap.size)(hK:∀v' w',w'.ownsRow base e size v' (n+m) (xs++aQ)->w.grownBy w' v.ownBlock->(v'.ownBlock=v.ownBlock\/v'.ownBlock=some w.heap.size)->K (a.put o.dst v') w'):
 if Region.wanted o (yielded ops a.tmps)=true then Oper.wp P o a w K Q else E:=by
 have h:Region.wanted o (yielded ops a.tmps)=true:=by simp[Region.wanted,hg]
 rw[if_pos h];obtain⟨v',w',g,b,d,_,f⟩:=run_append_own_at (P:=P) w base t o.type e i z size bytes ht hi hz hsize hby hzs hsz v n xs hown ad m c aQ hl hnews h1 h63 hbytes hbase;unfold Oper.wp execOp;simp only[ho,resolve,invoke,builtin,Sem.run_bind,Sem.run_pure,Result.andThen_ok,List.map_toArray,C_,List.map_nil,hs,hx,g];exact hK v' w' b d f
theorem aw (w:World)(o:Obj):Bl w (w.alloc o).drew:=⟨rfl,rfl,rfl,by simp,λk hk=>Below.heap_alloc _ _ _ hk⟩
theorem Bx.mkd (h:Bx w b t cs)(o:Obj):Bx (w.alloc o).drew b t cs:=h.mk o
theorem ag {size:Nat}(h:w.ownsRow base e size v n xs):∃a cap,v=.slice a n cap:=by
 rcases h.2 with ⟨rfl,rfl⟩|⟨c,cap,b,rfl,_,d,_⟩
 ·exact⟨_,_,rfl⟩
 exact⟨_,_,rfl⟩
theorem jz (w:World)(o:Obj):w.heap.size<=(w.alloc o).drew.heap.size:=by simp
theorem qT:(prog.info? 99).map (λi=>(i.zero,i.size,i.bytes))=some (some (.agg #[I 0,I 0,I 0]),3,24):=by kernel_rfl
theorem au (w:World)(cs:List Value)(t:TypeId):∀j u,cs[j]? =some u->(w.alloc (.cells cs.toArray t)).cell? ((⟨w.heap.size,0,none⟩:Addr).add j)=some u:=by
 intro j u h;rw[bE,O_];have a:Bx (w.alloc (.cells cs.toArray t)) w.heap.size t cs.toArray:=Bx.new w _ t;exact a.cell (by simpa using h)
theorem sZ (nb id kind n base:Nat)(oa:Option Addr)(ocap:Nat)(cs:Array Value)(xs:List Value)(w:World)(hB:Bx w nb 163 cs)(hv:cs[12]? =some (.slice oa n ocap))(hrow:w.ownsRow base 99 3 (.slice oa n ocap) n xs)(hne:(Value.slice oa n ocap).ownBlock≠some nb)(hb:base<=w.heap.size)(hn:n<1048576000):
 c_ 177 #[Px nb,I id,I kind] w λe w'=>e=.returned (.tuple #[])/\∃v',Bx w' nb 163 (cs.setIfInBounds 12 v')/\w'.ownsRow base 99 3 v' (n+1) (xs++[I ((n:Int)+1),I id,I kind])/\(v'.ownBlock=(Value.slice oa n ocap).ownBlock\/∃g,v'.ownBlock=some g/\w.heap.size<=g)/\ai w w' (λk=>k=nb\/(Value.slice oa n ocap).ownBlock=some k):=by
 obtain⟨x,u,d,f,i⟩:=info_parts qT;have s:=hB.cell hv;have p:∀o,(w.alloc o).cell? ⟨nb,12,none⟩=some (.slice oa n ocap):=λo=>(hB.mk o).cell hv;have l:=hd hB;have y:Hid (n+1<=maxLen):=by show _<=_;unfold maxLen;omega
 have z:Hid ((n+1)*24<=140737488355328):=e_ (u_ 24 (show n+1<=1048576000 by omega)) (by decide);have A:Hid (∀o,base<=(w.alloc o).heap.size):=λo=>by show base<=_;simp;omega
 have D:IntKind.i64.wrap ((n:Int)+1)=(n:Int)+1:=wrap_i64 (by omega) (by omega);clear hB;go_enter func177,ntmps177;go_region_law ((refine aT rfl _ _ 161 rfl base _ x _ 3 24 underlying161 u d f i rfl (by decide) (.slice oa n ocap) _ _ rfl (p_ hrow _) ⟨w.heap.size,0,none⟩ 1 1 [I ((n:Int)+1),I id,I kind] rfl rfl (au w _ _) (by simp[Value.oneCell']) y.out z.out (A.out _) ?_;intro v3 w3 hown3 hg3 hloc3;obtain⟨b,c,rfl⟩:=ag hown3;have a:Hid (Bx w3 nb 163 cs):=Bx.grown (l.out.mkd _) hg3 (λe=>hne e.symm);have t:=a.out.cell hv;have B:=a.out.fr 12;have r:=hd hown3;have q:Hid (w.grownBy w3 (Value.slice oa n ocap).ownBlock):=(v_ w _ _).trans ⟨hg3.os,hg3.tape,hg3.output,hg3.size,hg3.block⟩;have m:Hid ((Value.slice b (n+1) c).ownBlock=(Value.slice oa n ocap).ownBlock\/∃g,(Value.slice b (n+1) c).ownBlock=some g/\w.heap.size<=g):=hloc3.imp (λh=>h) (λh=>⟨_,h,jz w _⟩);clear hown3 hg3 hloc3))
 all_goals
  have j:(Value.slice b (n+1) c).ownBlock≠some nb:=by
   rcases m.out with h|⟨g,h,C⟩
   ·rw[h];exact hne
   rw[h];intro e;cases e;have:=l.out.lt;omega
  refine be_ ⟨rfl,_,a.out.set 12 _,t_ r.out (ah _ _ _ _) (.inr j),m.out,?_⟩;exact ai.trans (ai.of_grown q.out λk h=>.inr h) (ai.of_grown (ah _ _ _ _) (S:=λk=>k=nb) λk h=>by cases h;rfl) λk h=>.inl (.inl h)
theorem qV (lane id:Nat)(es:List Ed)(v:Value)(w:World)(hlane:lane<256)(hid:id<9223372036854775808)(hsm:iA es)(hV:BV w v (eV lane es es.length++be 8 id)):
 c_ 166 #[I 1,v] w λe w'=>(∃g,e=.returned (.agg #[I 1,I lane,s_ g 0 es.length es.length,I id,.bool false,I 0])/\w.heap.size<=g/\du w' g es.length es.length es)/\Bl w w':=by
 obtain⟨a,n,c,rfl⟩:=hV.form
 have L:Hid (∀b,w.heap.size<=b->(Value.slice a n c).ownBlock≠some b):=λb p=>by
  rcases hV with ⟨_,h⟩|⟨g,ae,ab,h,_,_,J,_⟩
  ·rw[h];simp[Value.ownBlock]
  rw[h];intro e;have:g=b:=by simpa[Value.ownBlock] using e
  omega
 have H:(eV lane es es.length++be 8 id).drop 1=fY es es.length++be 8 id:=by
  rw[eV,fY];simp[be]
 have K:val ((eV lane es es.length++be 8 id).take 1)=lane:=by
  rw[eV];simp[be,val];omega
 have T:1<=(eV lane es es.length++be 8 id).length:=by rw[a_,aC];omega
 have q:(be 8 id).take 8=be 8 id:=m_ (by rw[aC];exact b_ _);have r:val (be 8 id)=id:=by rw[ie];exact Nat.mod_eq_of_lt (by omega)
 have hN:=vM (w.heap.size+1+1) _ false _ _ (W3.cur w 1 (.slice a n c)) (hV.later (W3.below w 1 _));have ad:IntKind.i64.wrap (lane:Int)=lane:=wrap_i64 (by omega) (by omega);have aa:wrap64 (lane:Int)=lane:=by unfold wrap64;omega
 go_enter func166,ntmps166;go_wp2_with fail;go_fit hN;rintro e u ⟨y,rfl,M,J⟩;rcases M with ⟨_,hy,N,l,o,m⟩|⟨h,_⟩
 ·rw[K] at hy;subst hy;rw[H] at o;have d:=(W3.b1 w 1 (.slice a n c)).grown J (by simp);have f:=(W3.b0 w 1 (.slice a n c)).grown J (by simp;omega);have Y:=hd (ch (W3.below w 1 (.slice a n c)) J (by omega));have m1:=d.cell (i:=1) rfl;have mf:=d.fr 1;have Q:w.heap.size+1+1<u.heap.size:=(j_.1 l).1;have V:N.ownBlock≠some (w.heap.size+1):=by rw[m];exact L.out _ (Nat.le_succ _)
  have A:Cur (u.setCell ⟨w.heap.size+1,1,none⟩ (I y)) (w.heap.size+1+1) N false:=l.other (by omega) _ _;have C:BV (u.setCell ⟨w.heap.size+1,1,none⟩ (I y)) N (fY es es.length++be 8 id):=o.other V _ _;have hE:=sY (w.heap.size+1+1) N false es (be 8 id) _ _ A C rfl hsm
  have X1:Hid (Bx (u.setCell ⟨w.heap.size+1,1,none⟩ (I y)) (w.heap.size+1) 140 #[I 1,I y,Zn,I 0,.bool false,I 0]):=by
   have:=d.set 1 (I y);simp only[P_,List.set_cons_zero,List.set_cons_succ] at this;exact this
  have X0:Hid (Bx (u.setCell ⟨w.heap.size+1,1,none⟩ (I y)) w.heap.size 140 eD):=f.other (by omega) _ _;have XW:Hid (Bl w (u.setCell ⟨w.heap.size+1,1,none⟩ (I y))):=ao Y.out (Nat.le_succ _) _ _;have Z:=hd m;clear hN l o m J d f Y A C hV K H T;go_wp2_with fail;go_fit hE;rintro e x ⟨⟨g,rfl,S,hH⟩,⟨O,E,G,F⟩,k⟩;have ac:=h_ Q (by simpa[World.setCell] using S);have d:=X1.out.grown k (by simp);have f:=X0.out.grown k (by simp;omega);have m2:=d.cell (i:=2) rfl;have U:=d.fr 2;have W:O.ownBlock≠some (w.heap.size+1):=by rw[F,Z.out];exact L.out _ (Nat.le_succ _)
  have B:Cur (x.setCell ⟨w.heap.size+1,2,none⟩ (s_ g 0 es.length es.length)) (w.heap.size+1+1) O false:=E.other (by omega) _ _;have D:BV (x.setCell ⟨w.heap.size+1,2,none⟩ (s_ g 0 es.length es.length)) O (be 8 id):=G.other W _ _;have hI:=xF (w.heap.size+1+1) O false (be 8 id) _ B D (by rw[q,r];exact hid);have X:Hid (du (x.setCell ⟨w.heap.size+1,2,none⟩ (s_ g 0 es.length es.length)) g es.length es.length es):=hH.grown (ah _ _ _ _) (by omega)
  have Y1:Hid (Bx (x.setCell ⟨w.heap.size+1,2,none⟩ (s_ g 0 es.length es.length)) (w.heap.size+1) 140 #[I 1,I y,s_ g 0 es.length es.length,I 0,.bool false,I 0]):=by
   have:=d.set 2 (s_ g 0 es.length es.length);simp only[P_,List.set_cons_zero,List.set_cons_succ] at this;exact this
  have Y0:Hid (Bx (x.setCell ⟨w.heap.size+1,2,none⟩ (s_ g 0 es.length es.length)) w.heap.size 140 eD):=f.other (by omega) _ _;have YW:Hid (Bl w (x.setCell ⟨w.heap.size+1,2,none⟩ (s_ g 0 es.length es.length))):=ao (ch XW.out k (by omega)) (Nat.le_succ _) _ _;clear hE E G F k d f B D hH X1 X0 XW Z m1 mf;go_wp2_with fail;go_fit hI;rintro e w3 ⟨z,rfl,M,j⟩
  obtain rfl:z=id:=by
   rcases M with ⟨_,h,_⟩|⟨h,_⟩
   ·rw[h,q,r]
   rw[aC] at h;omega
  have d:=Y1.out.grown j (by simp);have f:=Y0.out.grown j (by simp;omega);have H3:=hd (X.out.grown j (by omega));have ZW:=hd (ch YW.out j (by omega));have k0:=d.cell (i:=0) rfl;have k1:=d.cell (i:=1) rfl;have k2:=d.cell (i:=2) rfl;have k3:=d.cell (i:=3) rfl;have k4:=d.cell (i:=4) rfl;have k5:=d.cell (i:=5) rfl;have kf:=d.fr 3;have n0:=f.cell (i:=0) rfl;have n1:=f.cell (i:=1) rfl;have n2:=f.cell (i:=2) rfl;have n3:=f.cell (i:=3) rfl;have n4:=f.cell (i:=4) rfl;have n5:=f.cell (i:=5) rfl;have nf:=f.fr;have P:=hd f;clear hI M j d f Y1 Y0 YW X m2 U q r;go_wp2;have t:=Bx.set6 (P.out.other (c:=w.heap.size+1) (by omega) 3 (I z)) (I 1) (I y) (s_ g 0 es.length es.length) (I z) (.bool false) (I 0);have z0:=t.cell (i:=0) rfl;have z1:=t.cell (i:=1) rfl;have z2:=t.cell (i:=2) rfl;have z3:=t.cell (i:=3) rfl;have z4:=t.cell (i:=4) rfl;have z5:=t.cell (i:=5) rfl;refine bodyPost_ret (by simp[results,results166,go_sem,z0,z1,z2,z3,z4,z5]) rfl ⟨⟨g,rfl,by omega,?_⟩,?_⟩
  ·have p:g≠w.heap.size:=by omega
   have R:g≠w.heap.size+1:=by omega
   exact((((((H3.out.grown (ah _ _ _ _) R).grown (ah _ _ _ _) p).grown (ah _ _ _ _) p).grown (ah _ _ _ _) p).grown (ah _ _ _ _) p).grown (ah _ _ _ _) p).grown (ah _ _ _ _) p
  have s:=b_ w.heap.size;exact ao (ao (ao (ao (ao (ao (ao ZW.out (Nat.le_succ _) _ _) s _ _) s _ _) s _ _) s _ _) s _ _) s _ _
 omega
variable{cap off size:Nat}
def Sl (w:World)(e:TypeId)(size:Nat)(v:Value)(n:Nat)(xs:List Value):Prop:=
 xs.length=n*size/\((v=Zn/\n=0)\/∃g off cap cur,v=.slice (some ⟨g,off,none⟩) n cap/\w.heap[g]? =some (.cells cur e (0,0))/\n<=cap/\cap<=maxLen/\off+cap*size<=cur.size/\∀j u,xs[j]? =some u->cur[off+j]? =some u)
theorem Sl.nil (w:World)(e:TypeId)(size:Nat):Sl w e size (Zn) 0 []:=⟨by simp,.inl ⟨rfl,rfl⟩⟩
theorem Sl.form (h:Sl w e size v n xs):∃a cap,v=.slice a n cap:=by
 rcases h.2 with ⟨rfl,rfl⟩|⟨g,c,cap,b,rfl,_⟩
 ·exact⟨_,_,rfl⟩
 exact⟨_,_,rfl⟩
theorem Sl.of_row (h:w.ownsRow base e size v n xs):Sl w e size v n xs:=by
 refine⟨h.1,?_⟩;rcases h.2 with c|⟨g,a,b,rfl,m,f,k,d,o,l⟩
 ·exact .inl c
 refine .inr ⟨g,0,a,b,rfl,f,k,d,by omega,λj u hu=>?_⟩;rw[<-l] at hu;have i:=(N_.1 hu).1;rw[l_] at i;rw[List.getElem?_take_of_lt (by omega)] at hu;simpa using hu
theorem Sl.kept (h:Sl w e size v n xs)(hk:∀g,v.ownBlock=some g->w'.heap[g]? =w.heap[g]?):Sl w' e size v n xs:=by
 refine⟨h.1,?_⟩;rcases h.2 with d|⟨g,c,a,b,rfl,f,i⟩
 ·exact .inl d
 exact .inr ⟨g,c,a,b,rfl,(hk g rfl).trans f,i⟩
theorem Sl.lt (h:Sl w e size v n xs){g:Nat}(hg:v.ownBlock=some g):g<w.heap.size:=by
 rcases h.2 with ⟨rfl,_⟩|⟨f,d,a,b,rfl,c,i⟩
 ·cases hg
 cases hg
 exact(j_.1 c).1
theorem Sl.typed (h:Sl w e size v n xs){g:Nat}(hg:v.ownBlock=some g):∃cur,w.heap[g]? =some (.cells cur e (0,0)):=by
 rcases h.2 with ⟨rfl,_⟩|⟨d,c,a,cur,rfl,b,f⟩
 ·cases hg
 cases hg
 exact⟨_,b⟩
theorem Sl.grown (h:Sl w e size v n xs)(hg:w.grownBy w' row)(hne:∀g,v.ownBlock=some g->row≠some g):Sl w' e size v n xs:=
 h.kept λg hv=>hg.block g (h.lt hv) (λx=>hne g hv x.symm)
theorem Sl.mk (h:Sl w e size v n xs)(o:Obj):Sl (w.alloc o) e size v n xs:=h.grown (v_ w o none) (by simp)
theorem Sl.later (h:Sl w e size v n xs)(hb:Bl w w'):Sl w' e size v n xs:=h.kept λg hv=>hb.block g (h.lt hv)
theorem Sl.cell {g:Nat}(h:Sl w e size (s_ g off n cap) n xs){j:Nat}{u:Value}(hu:xs[j]? =some u):w.cell? ⟨g,off+j,none⟩=some u:=by
 rcases h.2 with ⟨a,_⟩|⟨k,c,b,d,a,f,_,_,_,i⟩
 ·cases a
 cases a
 have:=i j u hu;simp[World.cell?,f,this]
theorem Sl.fr {g:Nat}(h:Sl w e size (s_ g off n cap) n xs)(j:Nat):w.frozen? ⟨g,j,none⟩=false:=by
 rcases h.2 with ⟨a,_⟩|⟨i,c,b,d,a,f,_,_,_,k⟩
 ·cases a
 cases a
 simp[World.frozen?,f]
theorem Sl.addr (h:Sl w e size v n xs)(hn:0<n):∃g off cap,v=s_ g off n cap/\n<=cap/\cap<=maxLen:=by
 rcases h.2 with ⟨_,d⟩|⟨g,off,cap,a,rfl,_,b,c,_⟩
 ·omega
 exact⟨g,off,cap,rfl,b,c⟩
theorem Sl.set {g:Nat}(h:Sl w e size (s_ g off n cap) n xs)(j:Nat)(u:Value):Sl (w.setCell ⟨g,off+j,none⟩ u) e size (s_ g off n cap) n (xs.set j u):=by
 refine⟨by rw[List.length_set];exact h.1,?_⟩;rcases h.2 with ⟨b,_⟩|⟨r,k,d,a,b,q,l,m,o,f⟩
 ·cases b
 cases b
 refine .inr ⟨g,off,cap,a.setIfInBounds (off+j) u,rfl,?_,l,m,by simpa using o,λi x hx=>?_⟩
 ·simp[World.setCell,Array.getElem?_modify,q]
 rw[List.getElem?_set] at hx;by_cases e':j=i
 ·subst e';rw[if_pos rfl] at hx;by_cases hl:j<xs.length
  ·rw[if_pos hl] at hx;have p:=f j xs[j] (by simp[hl]);have c:=(j_.1 p).1;rw[Array.getElem?_setIfInBounds];simpa[c] using hx
  rw[if_neg hl] at hx;cases hx
 rw[if_neg e'] at hx;rw[Array.getElem?_setIfInBounds_ne (by omega)];exact f i x hx
theorem Sl.cut {a:Option Addr}(h:Sl w e size (.slice a n cap) n xs){k:Nat}(hk:k<=n):Sl w e size (.slice a k cap) k (xs.take (k*size)):=by
 have g:=h.1;refine⟨by rw[l_,g];exact U_ (u_ _ hk),?_⟩;rcases h.2 with ⟨d,g⟩|⟨i,b,f,c,d,o,r,l,m,q⟩
 ·cases d
  obtain rfl:k=0:=by omega
  exact .inl ⟨rfl,rfl⟩
 cases d
 refine .inr ⟨i,b,cap,c,rfl,o,by omega,l,m,λj u hu=>?_⟩;have p:=(N_.1 hu).1;rw[l_] at p;rw[List.getElem?_take_of_lt (by omega)] at hu;exact q j u hu
theorem Sl.tail {g:Nat}(h:Sl w e size (s_ g off n cap) n xs){k:Nat}(hk:k<=n){off':Nat}(ho:off'=off+k*size\/cap-k=0):Sl w e size (s_ g (if cap-k=0 then off else off') (n-k) (cap-k)) (n-k) (xs.drop (k*size)):=by
 have d:=h.1;refine⟨by rw[G_,d,Nat.sub_mul],?_⟩;rcases h.2 with ⟨b,_⟩|⟨o,i,c,a,b,f,p,q,l,m⟩
 ·cases b
 cases b
 by_cases hc:cap-k=0
 ·rw[if_pos hc];refine .inr ⟨g,off,cap-k,a,rfl,f,by omega,by omega,by rw[hc,Nat.zero_mul];omega,λj u hu=>?_⟩
  have:xs.drop (k*size)=[]:=by
   apply List.drop_eq_nil_of_le;rw[d];exact u_ _ (by omega)
  rw[this] at hu;simp at hu
 rw[if_neg hc];obtain rfl:off'=off+k*size:=by omega
 refine .inr ⟨g,_,cap-k,a,rfl,f,by omega,by omega,?_,λj u hu=>?_⟩
 ·rw[J_,<-Nat.add_mul,Nat.add_sub_of_le (by omega)];exact l
 rw[List.getElem?_drop] at hu;rw[J_];exact m _ u hu
theorem gr (w:World)(t ty e:TypeId)(i:TypeInfo)(z:Value)(size bytes:Nat)(ht:P.underlying t=some (.slice e))(hi:P.info? e=some i)(hz:i.zero=some z)(hsize:i.size=size)(hby:i.bytes=bytes)(hzs:z.cells.size=size)(hsz:0<size)(v:Value)(n:Nat)(xs:List Value)(hown:Sl w e size v n xs)(a:Addr)(m c:Nat)(aQ:List Value)(hl:aQ.length=m*size)(hnews:∀j u,aQ[j]? =some u->w.cell? (a.add j)=some u)(h1:∀u∈aQ,u.oneCell'=true)(h63:n+m<=maxLen)(hbytes:(n+m)*bytes<=140737488355328):
 ∃v' w',(Builtin.append_ #[t,t] ty #[v,.slice (some a) m c]).run P w=.ok v' w'/\Sl w' e size v' (n+m) (xs++aQ)/\w.grownBy w' v.ownBlock/\(v'.ownBlock=v.ownBlock\/∃g,v'.ownBlock=some g/\w.heap.size<=g):=by
 rcases hown.2 with ⟨rfl,rfl⟩|⟨g,b,f,d,rfl,B,I,x,E,J⟩
 ·obtain rfl:xs=[]:=I_ (by simpa using hown.1);obtain⟨v',w',r,s,o,_,L⟩:=run_append_own_at (P:=P) w w.heap.size t ty e i z size bytes ht hi hz hsize hby hzs hsz (Zn) 0 [] (B_ w _ e size) a m c aQ hl hnews h1 h63 hbytes (b_ _);exact⟨v',w',r,Sl.of_row s,o,L.imp (λh=>h) (λh=>⟨_,h,b_ _⟩)⟩
 by_cases hroom:n+m<=f
 ·subst hsize
  have p:b+n*i.size+aQ.length<=d.size:=by
   have:(n+m)*i.size<=f*i.size:=u_ _ hroom;rw[Nat.add_mul] at this;omega
  have F:=run_firstCells_some (P:=P) w i.size m a m c aQ hl hnews;have q:=run_storeCells_at P g (b+n*i.size) e aQ 0 d w B (by simpa using p) h1;simp only[Nat.add_zero] at q;refine⟨s_ g b (n+m) f,w.setRow g (d.toList.take (b+n*i.size)++aQ++d.toList.drop (b+n*i.size+aQ.length)).toArray,?_,⟨?_,?_⟩,?_,.inl rfl⟩
  ·simp[Builtin.append_,run_underlying ht,sizeOf,typeInfo,hi,Builtin.lenOf,hroom,F,Addr.add_lit,q]
  ·rw[a_,hown.1,hl,Nat.add_mul]
  ·refine .inr ⟨g,b,f,_,rfl,setRow_heap w g d _ e _ B,hroom,x,?_,λj u hu=>?_⟩
   ·simp only[List.size_toArray,a_,l_,G_,Array.length_toList];omega
   have K:=hown.1;have H:b+n*i.size<=d.toList.length:=by rw[Array.length_toList];omega
   have l:(d.toList.take (b+n*i.size)).length=b+n*i.size:=by rw[l_];omega
   rw[List.getElem?_toArray,A_];by_cases hj:j<xs.length
   ·rw[V_ hj] at hu;rw[V_ (by rw[l];omega),List.getElem?_take_of_lt (by omega)];simpa using J j u hu
   rw[List.getElem?_append_right (by omega)] at hu;have G:=(N_.1 hu).1;rw[List.getElem?_append_right (by rw[l];omega),l,V_ (by omega)];rw[<-hu];congr 1;omega
  exact⟨rfl,rfl,rfl,by simp,λk _ hk=>setRow_other w g k _ (λe=>hk (by simp[Value.ownBlock,e]))⟩
 obtain⟨v',w',r,s,o⟩:=run_append_arg_grows (P:=P) w t ty e i z size bytes ht hi hz hsize hby hzs hsz ⟨g,b,none⟩ n f xs hown.1 (λj u hu=>by
  have:(⟨g,b,none⟩:Addr).add j=⟨g,b+j,none⟩:=by
   unfold Addr.add;by_cases h:j=0
   ·subst h;simp
   simp[h]
  rw[this];exact hown.cell hu) a m c aQ hl hnews (by omega) h63 hbytes
 refine⟨v',w',r,Sl.of_row s,⟨o.os,o.tape,o.output,o.size,λk hk _=>o.block k hk (by simp)⟩,?_⟩;rcases s.2 with ⟨rfl,M⟩|⟨C,y,A,rfl,D,_⟩
 ·omega
 exact .inr ⟨C,rfl,D⟩
theorem bp {o:Oper}{K:Act->World->Prop}{Q:Exit->Act->World->Prop}(hg:o.guard=none)(s x:Operand)(t:TypeId)(ho:o.op=Op.call {callee:=Callee.builtin Builtin.append,args:=#[s,x],argTypes:=#[t,t]})(e:TypeId)(i:TypeInfo)(z:Value)(size bytes:Nat)(ht:P.underlying t=some (.slice e))(hi:P.info? e=some i)(hz:i.zero=some z)(hsize:i.size=size)(hby:i.bytes=bytes)(hzs:z.cells.size=size)(hsz:0<size)(v:Value)(n:Nat)(xs:List Value)(hs:a.eval s=v)(hown:Sl w e size v n xs)(ad:Addr)(m c:Nat)(aQ:List Value)(hx:a.eval x=.slice (some ad) m c)(hl:aQ.length=m*size)(hnews:∀j u,aQ[j]? =some u->w.cell? (ad.add j)=some u)(h1:∀u∈aQ,u.oneCell'=true)(h63:n+m<=maxLen)(hbytes:(n+m)*bytes<=140737488355328)(hK:∀v' w',Sl w' e size v' (n+m) (xs++aQ)->w.grownBy w' v.ownBlock->(v'.ownBlock=v.ownBlock\/∃g,v'.ownBlock=some g/\w.heap.size<=g)->K (a.put o.dst v') w'):
 if Region.wanted o (yielded ops a.tmps)=true then Oper.wp P o a w K Q else E:=by
 have k:Region.wanted o (yielded ops a.tmps)=true:=by simp[Region.wanted,hg]
 rw[if_pos k];obtain⟨v',w',h,b,d,f⟩:=gr (P:=P) w t o.type e i z size bytes ht hi hz hsize hby hzs hsz v n xs hown ad m c aQ hl hnews h1 h63 hbytes;unfold Oper.wp execOp;simp only[ho,resolve,invoke,builtin,Sem.run_bind,Sem.run_pure,Result.andThen_ok,List.map_toArray,C_,List.map_nil,hs,hx,h];exact hK v' w' b d f
theorem cH (w:World){ops:Array Oper}{rest:List Oper}{o:Oper}{a:Act}{Q:Exit->Act->World->Prop}(hgd:o.guard=none)(s x:Operand)(t:TypeId)(ho:o.op=.call {callee:=.builtin .append,args:=#[s,x],argTypes:=#[t,t]})(e:TypeId)(i:TypeInfo)(z:Value)(size bytes:Nat)(ht:P.underlying t=some (.slice e))(hi:P.info? e=some i)(hz:i.zero=some z)(hsize:i.size=size)(hby:i.bytes=bytes)(hzs:z.cells.size=size)(hsz:0<size)(v:Value)(n:Nat)(xs:List Value)(hs:a.eval s=v)(hown:Sl w e size v n xs)(ad:Addr)(m c:Nat)(aQ:List Value)(hx:a.eval x=.slice (some ad) m c)(hl:aQ.length=m*size)(hnews:∀j u,aQ[j]? =some u->w.cell? (ad.add j)=some u)(h1:∀u∈aQ,u.oneCell'=true)(h63:n+m<=maxLen)(hbytes:(n+m)*bytes<=140737488355328)(h:∀v' w',Sl w' e size v' (n+m) (xs++aQ)->w.grownBy w' v.ownBlock->(v'.ownBlock=v.ownBlock\/∃g,v'.ownBlock=some g/\w.heap.size<=g)->wpList P ops Q rest (a.put o.dst v') w'):wpList P ops Q (o::rest) a w:=by
 refine wpList_plain hgd λK hK=>?_;obtain⟨v',w',k,b,d,f⟩:=gr (P:=P) w t o.type e i z size bytes ht hi hz hsize hby hzs hsz v n xs hown ad m c aQ hl hnews h1 h63 hbytes;unfold Oper.wp execOp;simp only[ho,resolve,invoke,builtin,Sem.run_bind,Sem.run_pure,Result.andThen_ok,List.map_toArray,C_,List.map_nil,hs,hx,k];exact hK _ _ (h v' w' b d f)
variable{id k:Nat}
abbrev Wt:=Nat×Nat×Nat×Value
def cW (x:Wt):List Value:=[I x.1,I x.2.1,I x.2.2.1,x.2.2.2]
def bD (v:Value):Prop:=∃a n c,v=.slice a n c
theorem i5:(prog.info? 165).map (λi=>(i.zero,i.size,i.bytes))=some (some (.agg #[I 0,I 0,I 0,Zn]),4,48):=by kernel_rfl
def wo (id:Nat)(q:List Wt):List Wt:=q.filter λx=>x.1 !=id
theorem B7 {q:List Wt}(h:k<q.length)(he:q[k].1=id):wo id (q.take (k+1))=wo id (q.take k):=by
 rw[g_ h,wo,wo,List.filter_append];simp[he]
theorem Ar {q:List Wt}(h:k<q.length)(he:q[k].1≠id):wo id (q.take (k+1))=wo id (q.take k)++[q[k]]:=by
 rw[g_ h,wo,wo,List.filter_append];simp[he]
theorem B8 (id:Nat)(q:List Wt)(k:Nat):(wo id (q.take k)).length<=k:=by
 refine e_ (List.length_filter_le _ _) ?_;rw[l_];omega
theorem mx (nb id:Nat)(q:List Wt)(g qcap base:Nat)(cs:Array Value)(w:World)(hB:Bx w nb 163 cs)(hv:cs[10]? =some (s_ g 0 q.length qcap))(hrow:w.ownsRow base 165 4 (s_ g 0 q.length qcap) q.length (q.flatMap cW))(hsl:∀x∈q,bD x.2.2.2)(hn:q.length<1048576):
 c_ 176 #[Px nb,I id] w λe w'=>e=.returned (.tuple #[])/\∃v',Bx w' nb 163 (cs.setIfInBounds 10 v')/\w'.ownsRow w.heap.size 165 4 v' (wo id q).length ((wo id q).flatMap cW)/\ai w w' (λk=>k=nb):=by
 obtain⟨Q,N,t,u,y⟩:=info_parts i5;have n:=hd hB
 have l:Hid (∀i (h:i<q.length) j,j<4->w.cell? ⟨g,i*4+j,none⟩=(cW q[i])[j]?):=λi h j hj=>by
  have C:=hrow.cells (g:=g) rfl;have s:=aq cW 4 (λ_=>rfl) q i j h hj;have K:j<(cW q[i]).length:=hj;rw[List.getElem?_eq_getElem K] at s ⊢;have:=C _ _ s;rw[bE,O_] at this;exact this
 have M:=(hrow.lt g rfl).2;clear hB hrow;go_enter func176,ntmps176;go_wp2;go_loopw [4,5] (λlv iv wr=>∃k:Nat,k<=q.length/\iv=I k/\Hid (wr.ownsRow w.heap.size 165 4 lv (wo id (q.take k)).length ((wo id (q.take k)).flatMap cW))/\Hid (Bl w wr)) (λ_ i _=>q.length-(intOf i).toNat)
 case atStart=>exact⟨0,k_ _,rfl,B_ _ _ _ _,n_ _ _⟩
 obtain⟨k,D,rfl,f,a⟩:=hrel;have F:=ae a.out (n.out.cell hv);by_cases hlk:k<q.length
 ·have G:=ae (v:=I q[k].1) a.out (by simpa[cW] using l.out k hlk 0 (by decide));have W:=ae (v:=I q[k].2.1) a.out (by simpa[cW] using l.out k hlk 1 (by decide));have X:=ae (v:=I q[k].2.2.1) a.out (by simpa[cW] using l.out k hlk 2 (by decide));have H:=ae (v:=q[k].2.2.2) a.out (by simpa[cW] using l.out k hlk 3 (by decide));obtain⟨z,B,A,c⟩:=hsl _ (i_ hlk);rw[c] at H;by_cases he:q[k].1=id
  ·have d:((q[k].1:Int) !=(id:Int))=false:=by simp[he]
   have r:=hd (B7 hlk he);rw[he] at G;clear d;go_wp2;exact⟨⟨k+1,hlk,by go_num,by rw[r.out];exact f.out,a.out⟩,by simp[intOf];omega⟩
  have r:=hd (Ar hlk he)
  have L:Hid (cW q[k]=[I q[k].1,I q[k].2.1,I q[k].2.2.1,.slice z B A]):=by
   show _=_;rw[cW,c]
  have P:=B8 id q k;have d:((q[k].1:Int)==(id:Int))=false:=by simp;omega
  generalize O:q[k]=x at *;clear c;have R:Hid ((wo id (q.take k)).length+1<=maxLen):=by show _<=_;unfold maxLen;omega
  have T:Hid (((wo id (q.take k)).length+1)*48<=140737488355328):=e_ (u_ 48 (show (wo id (q.take k)).length+1<=1048576 by omega)) (by decide)
  have E:Hid (∀o,w.heap.size<=(wr.alloc o).heap.size):=λo=>by
   have:=a.out.size;show w.heap.size<=_;simp;omega
  go_wp2_with (at_builtin;refine wpList_append_own_at _ rfl (.tmp 25) (.tmp 33) _ rfl w.heap.size _ Q _ 4 48 underlying159 N t u y rfl (by decide) u4 _ _ rfl (p_ f.out _) ⟨wr.heap.size,0,none⟩ 1 1 [I x.1,I x.2.1,I x.2.2.1,.slice z B A] rfl rfl (au wr _ _) (by simp[Value.oneCell']) R.out T.out (E.out _) ?_;intro v3 w3 hown3 hg3 hnil3 hloc3);refine⟨⟨k+1,hlk,by go_num,?_,?_⟩,by simp[intOf];omega⟩
  ·show w3.ownsRow _ _ _ _ _ _;rw[r.out,r_,a_];have:[x].flatMap cW=cW x:=by simp
   rw[this,L.out];exact hown3
  exact(a.out.alloc a.out.size _).grown hg3 (E.out _) (λj hj=>(f_ f.out j hj).1)
 obtain rfl:k=q.length:=by omega
 have b:=f;rw[W_] at b;have m:=n.out.grown (row:=none) ⟨a.out.os,a.out.tape,a.out.output,a.out.size,λk D _=>a.out.block k D⟩ (by simp);have J:=m.fr 10;have p:=hd m;obtain⟨U,V,rfl⟩:=ag b.out;clear m f;go_wp2;refine be_ ⟨rfl,_,p.out.set 10 _,t_ b.out (ah _ _ _ _) ?_,?_⟩
 ·refine .inr λe=>?_;have C:=(f_ b.out _ e).1;have s:=n.out.lt;omega
 exact ai.trans (ai.of_below a.out) (ai.of_grown (ah _ _ _ _) (S:=λk=>k=nb) λk h=>by cases h;rfl) λk h=>.inl h
variable{s1 s2 s3 s4 sh:Bool}{R R1 R2 R3 R4 body:List UInt8}{cb kind m:Nat}
theorem BV.len (h:BV w v R):∃a c,v=.slice a R.length c/\R.length<=c/\(c<9223372036854775808/\R.length<1099511627776)/\(a=none->c=0):=by
 rcases h with ⟨rfl,rfl⟩|⟨g,f,b,rfl,d,e,_⟩
 ·exact⟨none,0,rfl,b_ _,⟨by decide,by decide⟩,λ_=>rfl⟩
 exact⟨_,b,rfl,d,e,λh=>by cases h⟩
def Dl (w w':World)(cb:Nat)(v:Value)(sh:Bool)(R:List UInt8)(k:Nat)(v':Value)(sh':Bool)(R':List UInt8):Prop:=
 Cur w' cb v' sh'/\BV w' v' R'/\v'.ownBlock=v.ownBlock/\w.grownBy w' (some cb)/\((k<=R.length/\R'=R.drop k/\sh'=sh)\/(R.length<k/\R'=R/\sh'=true))
theorem mp.next {x:Nat}(h:mp x w w' cb v sh R k):∃v' sh' R',Dl w w' cb v sh R k v' sh' R'/\((k<=R.length/\x=val (R.take k))\/(R.length<k/\x=0)):=by
 obtain⟨h|h,f⟩:=h
 ·obtain⟨a,e,v',c,d,g⟩:=h;exact⟨v',sh,_,⟨c,d,g,f,.inl ⟨a,rfl,rfl⟩⟩,.inl ⟨a,e⟩⟩
 obtain⟨b,e,c,d⟩:=h;exact⟨v,true,R,⟨c,d,rfl,f,.inr ⟨b,rfl,rfl⟩⟩,.inr ⟨b,e⟩⟩
theorem BX.next {e:Ending}(h:BX e w w' cb v sh R k):∃u v' sh' R',e=.returned u/\(∃a n c,u=.slice a n c)/\Dl w w' cb v sh R k v' sh' R'/\(k<=R.length->BV w' u (R.take k)):=by
 obtain⟨h|h,j⟩:=h
 ·obtain⟨g,u,v',f,d,b,l,_,m⟩:=h;exact⟨u,v',sh,_,f,b.form,⟨d,l,m,j,.inl ⟨g,rfl,rfl⟩⟩,λ_=>b⟩
 obtain⟨i,f,d,b⟩:=h;exact⟨_,v,true,R,f,⟨_,_,_,rfl⟩,⟨d,b,rfl,j,.inr ⟨i,rfl,rfl⟩⟩,λh=>by omega⟩
def kJ (kind:Nat)(body:List UInt8):List UInt8:=be 1 kind++be 4 body.length++body++be 4 (bO (be 1 kind++be 4 body.length++body))
theorem eG (kind:Nat)(body:List UInt8):(kJ kind body).length=9+body.length:=by
 rw[kJ,a_,jV,aC];omega
theorem s8 {T:List UInt8}{y:Nat}(hb:body.length<1000)(hm:m<9+body.length)(hT:T=(kJ kind body).take m)(h1:(1<=T.length/\R1=T.drop 1/\s1=false)\/(T.length<1/\R1=T/\s1=true))(h2:(4<=R1.length/\R2=R1.drop 4/\s2=s1)\/(R1.length<4/\R2=R1/\s2=true))(hy:(4<=R1.length/\y=val (R1.take 4))\/(R1.length<4/\y=0))(h3:(y<=R2.length/\R3=R2.drop y/\s3=s2)\/(R2.length<y/\R3=R2/\s3=true))(h4:(4<=R3.length/\R4=R3.drop 4/\s4=s3)\/(R3.length<4/\R4=R3/\s4=true)):s4=true:=by
 have g:T.length=m:=by rw[hT,l_,eG];omega
 rcases h1 with ⟨d,rfl,rfl⟩|⟨d,rfl,rfl⟩
 ·rcases h2 with ⟨a,rfl,rfl⟩|⟨a,rfl,rfl⟩
  ·have b:y=body.length:=by
    rcases hy with ⟨_,h⟩|⟨h,_⟩
    ·rw[h,hT]
     have e:(((kJ kind body).take m).drop 1).take 4=be 4 body.length:=by
      rw[List.drop_take,List.take_take];have i:5<=m:=by rw[G_] at a;omega
      rw[U_ (by omega),kJ];simp[be]
     rw[e,ie];exact Nat.mod_eq_of_lt (by omega)
    omega
   subst b;rcases h3 with ⟨c,rfl,rfl⟩|⟨c,rfl,rfl⟩
   ·rcases h4 with ⟨f,_,_⟩|⟨_,_,h⟩
    ·simp only[G_] at c f;omega
    exact h
   rcases h4 with ⟨_,_,h⟩|⟨_,_,h⟩
   ·exact h
   exact h
  rcases h3 with ⟨_,_,rfl⟩|⟨_,_,rfl⟩
  ·rcases h4 with ⟨_,_,h⟩|⟨_,_,h⟩
   ·exact h
   exact h
  rcases h4 with ⟨_,_,h⟩|⟨_,_,h⟩
  ·exact h
  exact h
 rcases h2 with ⟨a,_,_⟩|⟨_,_,rfl⟩
 ·omega
 rcases h3 with ⟨_,_,rfl⟩|⟨_,_,rfl⟩
 ·rcases h4 with ⟨_,_,h⟩|⟨_,_,h⟩
  ·exact h
  exact h
 rcases h4 with ⟨_,_,h⟩|⟨_,_,h⟩
 ·exact h
 exact h
def cJ (p:Bool):Nat:=if p then 1 else 0
theorem lC (p:Bool)(w:World):c_ 199 #[.bool p] w λe w'=>e=.returned (.int .u8 (cJ p:Nat))/\w'=w:=by
 cases p
 all_goals
  go_enter func199,ntmps199;go_wp2;go_ret;exact⟨rfl,rfl⟩
theorem vR (lane id num:Nat)(pass:Bool)(ea:Option Addr)(en ec:Nat)(w:World)(body:List UInt8)(hbody:body=be 1 (cJ pass)++be 8 num):
 c_ 159 #[.agg #[.int .i64 4,.int .i64 lane,.slice ea en ec,.int .i64 id,.bool pass,.int .i64 num]] w λe w'=>∃v',e=.returned v'/\eW w w' v' body:=by
 have hp:cJ pass<256:=by cases pass<;>decide
 have hv:=lC pass;have hc:Hid (∀o,c_ 160 #[.slice none 0 0,.int .u8 ((cJ pass:Nat):Int)] (w.alloc o) λe w'=>∃v',e=.returned v'/\App (w.heap.size+1) (w.alloc o) w' (.slice none 0 0) v' ([]++be 1 (cJ pass))):=λo=>qQ (cJ pass) hp (.slice none 0 0) [] (w.heap.size+1) (w.alloc o) (jW _ _) (by simp) (by decide)
 have hsub:Hid (([]++be 1 (cJ pass))++be 8 num=body):=by
  show _=_;rw[hbody];simp
 have nw:Hid ((Value.slice none 0 0).ownBlock≠some w.heap.size):=by show _≠_;simp[Value.ownBlock]
 have L1:([]++be 1 (cJ pass):List UInt8).length=1:=by simp[aC]
 clear hbody;generalize cJ pass=pn at *;go_enter func159,ntmps159;go_wp2_with fail;go_fit (hv _);rintro e w0 ⟨rfl,rfl⟩;go_wp2_with fail;go_fit (hc.out _);rintro e w1 ⟨v1,rfl,k1⟩;have K1:Hid _:=k1;have c5:w1.cell? ⟨w.heap.size,5,none⟩=some (.int .i64 num):=aL.keeps k1 (by simp) nw.out;have hI:=sW num v1 ([]++be 1 pn) (w.heap.size+1) w1 (aL.row k1) (e_ (by simp) (aL.grown k1).size) (by omega);clear k1 hc;go_wp2_with fail;go_fit hI;rintro e w3 ⟨v3,rfl,k3⟩;go_wp2_with fail;go_ret;refine⟨v3,rfl,?_⟩;have:=eW.of (aL.trans K1.out k3);rwa [hsub.out] at this
theorem xN (num:Nat)(pass:Bool)(v:Value)(w:World)(hid:num<9223372036854775808)(hV:BV w v (be 1 (cJ pass)++be 8 num)):
 c_ 166 #[I 4,v] w λe w'=>e=.returned (.agg #[I 4,I 0,Zn,I 0,.bool pass,I num])/\Bl w w':=by
 obtain⟨a,n,c,rfl⟩:=hV.form;have hp:cJ pass<256:=by cases pass<;>decide
 have H:=lC true
 have G:Hid (∀b,w.heap.size<=b->(Value.slice a n c).ownBlock≠some b):=λb hb=>by
  rcases hV with ⟨_,h⟩|⟨g,X,U,h,_,_,A,_⟩
  ·rw[h];simp[Value.ownBlock]
  rw[h];intro e;have:g=b:=by simpa[Value.ownBlock] using e
  omega
 have x:(be 1 (cJ pass)++be 8 num).drop 1=be 8 num:=List.drop_left' (aC 1 _)
 have B:val ((be 1 (cJ pass)++be 8 num).take 1)=cJ pass:=by
  rw[List.take_left' (aC 1 _),ie];exact Nat.mod_eq_of_lt (by omega)
 have F:1<=(be 1 (cJ pass)++be 8 num).length:=by rw[a_,aC];omega
 have m:(be 8 num).take 8=be 8 num:=m_ (by rw[aC];exact b_ _);have o:val (be 8 num)=num:=by rw[ie];exact Nat.mod_eq_of_lt (by omega)
 have P:=vM (w.heap.size+1+1) _ false _ _ (W3.cur w 4 (.slice a n c)) (hV.later (W3.below w 4 _));have Q:(((cJ pass:Nat):Int)==((cJ true:Nat):Int))=pass:=by cases pass<;>rfl
 go_enter func166,ntmps166;go_wp2_with fail;go_fit P;rintro e r ⟨y,rfl,C,A⟩;rcases C with ⟨_,R,D,k,l,u⟩|⟨h,_⟩
 ·rw[B] at R;subst R;rw[x] at l;have d:=(W3.b1 w 4 (.slice a n c)).grown A (by simp);have f:=(W3.b0 w 4 (.slice a n c)).grown A (by simp;omega);have K:=hd (ch (W3.below w 4 (.slice a n c)) A (by omega));have V:=d.cell (i:=4) rfl;have W:=d.fr 4;have T:w.heap.size+1+1<r.heap.size:=(j_.1 k).1;have J:D.ownBlock≠some (w.heap.size+1):=by rw[u];exact G.out _ (Nat.le_succ _)
  have s:Cur (r.setCell ⟨w.heap.size+1,4,none⟩ (.bool pass)) (w.heap.size+1+1) D false:=k.other (by omega) _ _;have t:BV (r.setCell ⟨w.heap.size+1,4,none⟩ (.bool pass)) D (be 8 num):=l.other J _ _;have O:=xF (w.heap.size+1+1) D false (be 8 num) _ s t (by rw[m,o];exact hid)
  have M:Hid (Bx (r.setCell ⟨w.heap.size+1,4,none⟩ (.bool pass)) (w.heap.size+1) 140 #[I 4,I 0,Zn,I 0,.bool pass,I 0]):=by
   have:=d.set 4 (.bool pass);simp only[P_,List.set_cons_zero,List.set_cons_succ] at this;exact this
  have L:Hid (Bx (r.setCell ⟨w.heap.size+1,4,none⟩ (.bool pass)) w.heap.size 140 eD):=f.other (by omega) _ _;have N:Hid (Bl w (r.setCell ⟨w.heap.size+1,4,none⟩ (.bool pass))):=ao K.out (Nat.le_succ _) _ _;clear P k l u A d f K s t hV B x F;go_wp2_with fail;go_fit (H _);rintro e w0 ⟨rfl,rfl⟩;go_wp2_with fail;go_fit O;rintro e w3 ⟨z,rfl,C,j⟩
  obtain rfl:z=num:=by
   rcases C with ⟨_,h,_⟩|⟨h,_⟩
   ·rw[h,m,o]
   rw[aC] at h;omega
  have d:=M.out.grown j (by simp);have f:=L.out.grown j (by simp;omega);have S:=hd (ch N.out j (by omega));have k0:=d.cell (i:=0) rfl;have k1:=d.cell (i:=1) rfl;have k2:=d.cell (i:=2) rfl;have k3:=d.cell (i:=3) rfl;have k4:=d.cell (i:=4) rfl;have k5:=d.cell (i:=5) rfl;have kf:=d.fr 5;have n0:=f.cell (i:=0) rfl;have n1:=f.cell (i:=1) rfl;have n2:=f.cell (i:=2) rfl;have n3:=f.cell (i:=3) rfl;have n4:=f.cell (i:=4) rfl;have n5:=f.cell (i:=5) rfl;have nf:=f.fr;have E:=hd f;clear O C j d f M L N V W m o;go_wp2;have q:=Bx.set6 (E.out.other (c:=w.heap.size+1) (by omega) 5 (I z)) (I 4) (I 0) (Zn) (I 0) (.bool pass) (I z);have Y:=q.cell (i:=0) rfl;have Z:=q.cell (i:=1) rfl;have z2:=q.cell (i:=2) rfl;have z3:=q.cell (i:=3) rfl;have z4:=q.cell (i:=4) rfl;have z5:=q.cell (i:=5) rfl;refine bodyPost_ret (by simp[results,results166,go_sem,Y,Z,z2,z3,z4,z5]) rfl ⟨rfl,?_⟩;have p:=b_ w.heap.size;exact ao (ao (ao (ao (ao (ao (ao S.out (Nat.le_succ _) _ _) p _ _) p _ _) p _ _) p _ _) p _ _) p _ _
 omega
variable{i yb:Nat}{v' x0:Value}{W:World}
theorem gE (h:w.grownBy w' none)(row:Option Nat):w.grownBy w' row:=⟨h.os,h.tape,h.output,h.size,λk hk _=>h.block k hk (by simp)⟩
theorem kI (w:World)(a:Addr):w.drew.cell? a=w.cell? a:=rfl
theorem Sl.mkd (h:Sl w e size v n xs)(o:Obj):Sl (w.alloc o).drew e size v n xs:=h.mk o
theorem Aq {g:Nat}{x1 x2:Value}(h:Sl w e 3 (s_ g off (n+1) cap) (n+1) (x0::x1::x2::xs))(z0 z1 z2:Value):
 Sl (((w.setCell ⟨g,off,none⟩ z0).setCell ⟨g,off+1,none⟩ z1).setCell ⟨g,off+2,none⟩ z2) e 3 (s_ g (if cap-1=0 then off else off+3) n (cap-1)) n xs:=by
 have a:=((h.set 0 z0).set 1 z1).set 2 z2;have b:=a.tail (k:=1) (by omega) (off':=off+3) (.inl (by omega));simpa using b
theorem s6 {g:Nat}(hB:Bx w yb t cs)(hS:Sl W e 3 v' n xs)(hg:w.grownBy W (some g))(hne:g≠yb)(hv:v'.ownBlock=some g)(o:Obj):
 Bx ((W.setCell ⟨yb,i,none⟩ v').alloc o).drew yb t (cs.setIfInBounds i v')/\Sl ((W.setCell ⟨yb,i,none⟩ v').alloc o).drew e 3 v' n xs/\ai w ((W.setCell ⟨yb,i,none⟩ v').alloc o).drew (λk=>k=yb\/some g=some k):=by
 refine⟨((hB.grown hg (by simpa using hne.symm)).set i v').mkd o,(hS.grown (ah _ _ _ _) (λk hk e=>?_)).mkd o,?_⟩
 ·rw[hv] at hk;cases hk;cases e;exact hne rfl
 refine ai.trans (ai.of_grown hg λk h=>.inr h) (S':=λk=>k=yb) ?_ λk h=>.inl (.inl h);exact ai.trans (ai.of_grown (ah W yb i v') (S:=λk=>k=yb) λk h=>by cases h;rfl) (S':=λ_=>False) (ai.of_below (aw _ _)) λk h=>h.elim
theorem BZ (w:World)(g a b c:Nat)(x y z:Value):w.grownBy (((w.setCell ⟨g,a,none⟩ x).setCell ⟨g,b,none⟩ y).setCell ⟨g,c,none⟩ z) (some g):=((ah w g a x).trans (ah _ g b y)).trans (ah _ g c z)
theorem Sl.ne (h:Sl w e size v n xs)(hB:Bx w b t cs)(het:e≠t):v.ownBlock≠some b:=λhv=>by
 obtain⟨c,a⟩:=h.typed hv
 unfold Bx at hB
 rw[hB] at a
 injection a with a
 injection a with _ h2 _
 exact het h2.symm
theorem Bx.ne {s:TypeId}{c:Nat}{ds:Array Value}(h:Bx w c s ds)(hB:Bx w b t cs)(het:s≠t):c≠b:=λhv=>by
 subst hv
 unfold Bx at h hB
 rw[hB] at h
 injection h with h
 injection h with _ h2 _
 exact het h2.symm
theorem B5 (yb i n:Nat)(t:TypeId)(o0 o1 o2:Int)(v:Value)(cs:Array Value)(xs:List Value)(w:World)(hB:Bx w yb t cs)(hv:cs[i]? =some v)(hS:Sl w 99 3 v n xs)(hne:v.ownBlock≠some yb)(hn:n<1048576000):
 c_ 205 #[.pointer (some ⟨yb,i,none⟩),.agg #[I o0,I o1,I o2]] w λe w'=>e=.returned (.tuple #[])/\∃v',Bx w' yb t (cs.setIfInBounds i v')/\Sl w' 99 3 v' (n+1) (xs++[I o0,I o1,I o2])/\(v'.ownBlock=v.ownBlock\/∃g,v'.ownBlock=some g/\w.heap.size<=g)/\ai w w' (λk=>k=yb\/v.ownBlock=some k):=by
 obtain⟨K,H,r,s,u⟩:=info_parts qT;obtain⟨f,a,rfl⟩:=hS.form;have L:Hid (n+1<=maxLen):=by show _<=_;unfold maxLen;omega
 have M:Hid ((n+1)*24<=140737488355328):=e_ (u_ 24 (show n+1<=1048576000 by omega)) (by decide);have C:=hd hB;have D:=hd hS;have J:=hB.lt;clear hB hS;go_enter func205,ntmps205;go_upto_region 1 with fail;have b:Hid (Bx (w.alloc (.cells #[I o0,I o1,I o2] 99)) yb t cs):=C.out.mk _;have l:Hid (Sl (w.alloc (.cells #[I o0,I o1,I o2] 99)) 99 3 (.slice f n a) n xs):=D.out.mk _;have d:Hid (w.grownBy (w.alloc (.cells #[I o0,I o1,I o2] 99)) none):=v_ _ _ _;have N:(w.alloc (.cells #[I o0,I o1,I o2] 99)).cell? ⟨w.heap.size,0,none⟩=some (I o0):=by simp
 have O:(w.alloc (.cells #[I o0,I o1,I o2] 99)).cell? ⟨w.heap.size,1,none⟩=some (I o1):=by simp
 have P:(w.alloc (.cells #[I o0,I o1,I o2] 99)).cell? ⟨w.heap.size,2,none⟩=some (I o2):=by simp
 generalize q:w.alloc (.cells #[I o0,I o1,I o2] 99)=j at *;clear q;have F:=b.out.cell hv;have z:∀o,(j.alloc o).cell? ⟨yb,i,none⟩=some (.slice f n a):=λo=>(b.out.mk o).cell hv;go_region_law ((refine bp rfl _ _ 161 rfl _ K _ 3 24 underlying161 H r s u rfl (by decide) (.slice f n a) _ _ rfl (Sl.mk l.out _) ⟨j.heap.size,0,none⟩ 1 1 [I o0,I o1,I o2] rfl rfl (au j _ _) (by simp[Value.oneCell']) L.out M.out ?_;intro v3 w3 hown3 hg3 hloc3;obtain⟨m,p,rfl⟩:=hown3.form;have c:Hid (Bx w3 yb t cs):=Bx.grown (b.out.mkd _) hg3 (λe=>hne e.symm);have G:=c.out.cell hv;have Q:=c.out.fr i;have E:=hd hown3;have B:Hid (w.grownBy w3 (Value.slice f n a).ownBlock):=(gE d.out _).trans ((v_ j _ _).trans ⟨hg3.os,hg3.tape,hg3.output,hg3.size,hg3.block⟩);have y:Hid ((Value.slice m (n+1) p).ownBlock=(Value.slice f n a).ownBlock\/∃g,(Value.slice m (n+1) p).ownBlock=some g/\w.heap.size<=g):=hloc3.imp (λh=>h) (λ⟨g,h,hle⟩=>⟨g,h,e_ d.out.size (e_ (jz j _) hle)⟩);clear hown3 hg3 hloc3))
 all_goals
  have x:(Value.slice m (n+1) p).ownBlock≠some yb:=by
   rcases y.out with h|⟨g,h,A⟩
   ·rw[h];exact hne
   rw[h];intro e;cases e;omega
  refine be_ ⟨rfl,_,c.out.set i _,Sl.grown E.out (ah _ _ _ _) (λg A e=>x (by rw[A];exact e.symm)),y.out,?_⟩;exact ai.trans (ai.of_grown B.out λk h=>.inr h) (ai.of_grown (ah _ _ _ _) (S:=λk=>k=yb) λk h=>by cases h;rfl) λk h=>.inl (.inl h)
theorem oh (yb i n:Nat)(t:TypeId)(x0 x1 x2:Int)(v:Value)(cs:Array Value)(xs:List Value)(w:World)(hB:Bx w yb t cs)(hv:cs[i]? =some v)(hS:Sl w 99 3 v (n+1) (I x0::I x1::I x2::xs)):
 c_ 173 #[.pointer (some ⟨yb,i,none⟩)] w λe w'=>e=.returned (.tuple #[.agg #[I x0,I x1,I x2],.bool true])/\Bl w w':=by
 obtain⟨g,a,b,rfl,d,c⟩:=hS.addr (by omega);have h:=hB.cell hv;have k:w.cell? ⟨g,a,none⟩=some (I x0):=hS.cell (j:=0) rfl;have l:w.cell? ⟨g,a+1,none⟩=some (I x1):=hS.cell (j:=1) rfl;have m:w.cell? ⟨g,a+2,none⟩=some (I x2):=hS.cell (j:=2) rfl;have p:=hB.lt;have o:g<w.heap.size:=hS.lt rfl;have f:((n:Int)+1==0)=false:=by simp;omega
 clear hB hS;go_enter func173,ntmps173;go_wp2;refine bodyPost_ret (by simp[results,results173,go_sem];rfl) rfl ⟨by rfl,?_⟩;exact af _ _
theorem od (yb i:Nat)(t:TypeId)(v:Value)(cs:Array Value)(w:World)(hB:Bx w yb t cs)(hv:cs[i]? =some v)(hS:Sl w 99 3 v 0 []):
 c_ 173 #[.pointer (some ⟨yb,i,none⟩)] w λe w'=>e=.returned (.tuple #[.agg #[I 0,I 0,I 0],.bool false])/\Bl w w':=by
 obtain⟨a,b,rfl⟩:=hS.form;have c:=hB.cell hv;have d:=hB.lt;clear hB hS;go_enter func173,ntmps173;go_wp2;refine bodyPost_ret (by simp[results,results173,go_sem];rfl) rfl ⟨by rfl,?_⟩;exact af _ _
variable{L age:Nat}
def pK (age:Nat)(x:Wt):Nat:=x.2.1-x.2.2.1/age
def cS (age L:Nat)(q:List Wt):List Wt:=q.filter λx=>pK age x==L
def rk (age:Nat)(q:List Wt)(L:Nat):List Wt:=(List.range L).flatMap λl=>cS age l q
theorem uV (age:Nat)(q:List Wt)(L:Nat):rk age q (L+1)=rk age q L++cS age L q:=by
 rw[rk,List.range_succ,r_];simp[rk]
theorem s7 {q:List Wt}(h:k<q.length)(he:pK age q[k]=L):cS age L (q.take (k+1))=cS age L (q.take k)++[q[k]]:=by
 rw[g_ h,cS,cS,List.filter_append];simp[he]
theorem qU {q:List Wt}(h:k<q.length)(he:pK age q[k]≠L):cS age L (q.take (k+1))=cS age L (q.take k):=by
 rw[g_ h,cS,cS,List.filter_append];simp[he]
theorem mz (age L:Nat)(q:List Wt):(cS age L q).length<=q.length:=List.length_filter_le _ _
theorem xK (age:Nat)(q:List Wt):∀L,(rk age q L).length<=L*q.length
 |0=>by simp[rk]
 |L+1=>by
  rw[uV,a_,Nat.add_mul]
  have:=xK age q L
  have:=mz age L q
  omega
theorem oK (nb age:Nat)(q:List Wt)(g qcap base:Nat)(cs:Array Value)(w:World)(hB:Bx w nb 163 cs)(hv:cs[10]? =some (s_ g 0 q.length qcap))(hage:cs[1]? =some (I age))(ha:1<=age/\age<9)(hrow:w.ownsRow base 165 4 (s_ g 0 q.length qcap) q.length (q.flatMap cW))(hsl:∀x∈q,bD x.2.2.2/\x.2.1<1000/\x.2.2.1<4611686018427387904)(hn:q.length<1048576):
 c_ 184 #[Px nb] w λe w'=>∃v',e=.returned v'/\w'.ownsRow w.heap.size 165 4 v' (rk age q 4).length ((rk age q 4).flatMap cW)/\Bl w w':=by
 obtain⟨i0,hi,R,S,T⟩:=info_parts i5;have W:=hd hB
 have C:Hid (∀i (h:i<q.length) j,j<4->w.cell? ⟨g,i*4+j,none⟩=(cW q[i])[j]?):=λi h j hj=>by
  have h1:=hrow.cells (g:=g) rfl;have h2:=aq cW 4 (λ_=>rfl) q i j h hj;have h3:j<(cW q[i]).length:=hj;rw[List.getElem?_eq_getElem h3] at h2 ⊢;have:=h1 _ _ h2;rw[bE,O_] at this;exact this
 have P:=(hrow.lt g rfl).2;clear hB hrow;go_enter func184,ntmps184;go_wp2;go_loopw [3,4,5,6] (λlv Lv _ _ wr=>∃L:Nat,L<=4/\Lv=I L/\Hid (wr.ownsRow w.heap.size 165 4 lv (rk age q L).length ((rk age q L).flatMap cW))/\Hid (Bl w wr)) (λ_ Lv _ _ _=>4-(intOf Lv).toNat)
 case atStart=>exact⟨0,k_ _,rfl,B_ _ _ _ _,n_ _ _⟩
 obtain⟨L,hL,rfl,l,c⟩:=hrel;by_cases hL4:L<4
 ·have z:=xK age q L;have A:(rk age q L).length<=4*1048576:=e_ z (Nat.mul_le_mul (by omega) (by omega));clear z;have aa:(L:Int)<4:=by omega
  go_wp2;go_loopw [3,5,6] (λlv iv _ wr=>∃k:Nat,k<=q.length/\iv=I k/\Hid (wr.ownsRow w.heap.size 165 4 lv (rk age q L++cS age L (q.take k)).length ((rk age q L++cS age L (q.take k)).flatMap cW))/\Hid (Bl w wr)) (λ_ i _ _=>q.length-(intOf i).toNat)
  case atStart=>exact⟨0,k_ _,rfl,by simpa[cS] using l,c⟩
  clear l c;obtain⟨k,D,rfl,l,c⟩:=hrel;have ad:=h_ P c.out.size;have u:=ae c.out (W.out.cell hv);by_cases hlk:k<q.length
  ·have Z:=ae (v:=I q[k].1) c.out (by simpa[cW] using C.out k hlk 0 (by decide));have d1:=ae (v:=I q[k].2.1) c.out (by simpa[cW] using C.out k hlk 1 (by decide));have d2:=ae (v:=I q[k].2.2.1) c.out (by simpa[cW] using C.out k hlk 2 (by decide));have G:=ae (v:=q[k].2.2.2) c.out (by simpa[cW] using C.out k hlk 3 (by decide));obtain⟨⟨H,K,J,r⟩,p,y⟩:=hsl _ (i_ hlk);rw[r] at G;have s:=mz age L (q.take k);have Q:(q.take k).length<=1048576:=by rw[l_];omega
   have O:Hid (cW q[k]=[I q[k].1,I q[k].2.1,I q[k].2.2.1,.slice H K J]):=by
    show _=_;rw[cW,r]
   have d:Hid (pK age q[k]=L->cS age L (q.take (k+1))=cS age L (q.take k)++[q[k]]):=λh=>s7 hlk h;have b:Hid (pK age q[k]≠L->cS age L (q.take (k+1))=cS age L (q.take k)):=λh=>qU hlk h;generalize ag:q[k]=x at *;have V:=W.out.grown (row:=none) ⟨c.out.os,c.out.tape,c.out.output,c.out.size,λk D _=>c.out.block k D⟩ (by simp);have f:=Ap nb x.1 x.2.1 x.2.2.1 age H K J cs wr V hage ha p y;have n:Hid (x.2.1-x.2.2.1/age=pK age x):=rfl;rw[n.out] at f;clear r V n;generalize pK age x=m at f d b;generalize M:rk age q L++cS age L (q.take k)=Y at l;have X:=hd M;have ac:Y.length<=5*1048576:=by rw[<-M,a_];omega
   clear M s Q A;go_wp2_with fail;go_fit f;rintro e U ⟨rfl,a⟩;have e0:=ae a Z;have e1:=ae a d1;have e2:=ae a d2;have e3:=ae a G;have ab:=ae a u;have B:=hd (c.out.trans (a.mono c.out.size));have F:=hd (t_ (row:=none) l.out ⟨a.os,a.tape,a.output,a.size,λk D _=>a.block k D⟩ (Classical.em _));clear Z d1 d2 G u a f l c;by_cases hm:m=L
   ·have E:Hid (rk age q L++cS age L (q.take (k+1))=Y++[x]):=by
     show _=_;rw[d.out hm,<-A_,X.out]
    have q1:Hid (Y.length+1<=maxLen):=by show _<=_;unfold maxLen;omega
    have q2:Hid ((Y.length+1)*48<=140737488355328):=e_ (u_ 48 (show Y.length+1<=6000000 by omega)) (by decide)
    have q3:Hid (∀o,w.heap.size<=(U.alloc o).heap.size):=λo=>by
     have:=B.out.size;show w.heap.size<=_;simp;omega
    subst hm;clear d b;go_wp2_with (at_builtin;refine wpList_append_own_at _ rfl (.tmp 32) (.tmp 40) _ rfl w.heap.size _ i0 _ 4 48 underlying159 hi R S T rfl (by decide) u3 _ _ rfl (p_ F.out _) ⟨U.heap.size,0,none⟩ 1 1 [I x.1,I x.2.1,I x.2.2.1,.slice H K J] rfl rfl (au U _ _) (by simp[Value.oneCell']) q1.out q2.out (q3.out _) ?_;intro v3 w3 hown3 hg3 hnil3 hloc3)
    have t:w3.ownsRow w.heap.size 165 4 v3 (Y++[x]).length ((Y++[x]).flatMap cW):=by
     rw[r_,a_];have:[x].flatMap cW=cW x:=by simp
     rw[this,O.out];exact hown3
    have N:=(B.out.alloc B.out.size _).grown hg3 (q3.out _) (λj hj=>(f_ F.out j hj).1);go_roundw
    case rel=>exact⟨k+1,hlk,by go_num,by rw[E.out];exact t,N⟩
    case measure=>simp[intOf];omega
   have E:Hid (rk age q L++cS age L (q.take (k+1))=Y):=by
    show _=_;rw[b.out hm,X.out]
   have af:((m:Int)==(L:Int))=false:=by simp;omega
   clear d b;go_wp2;go_roundw
   case rel=>exact⟨k+1,hlk,by go_num,by rw[E.out];exact F.out,B.out⟩
   case measure=>simp[intOf];omega
  obtain rfl:k=q.length:=by omega
  rw[W_,<-uV] at l;go_wp2;exact⟨⟨L+1,hL4,by go_num,l,c⟩,by simp[intOf];omega⟩
 obtain rfl:L=4:=by omega
 go_wp2;go_ret;exact⟨u3,rfl,l.out,c.out⟩
theorem s9 {rest:List UInt8}{x y z:Nat}(hk:kind<256)(hb:body.length<1000)(hR:R=kJ kind body++rest)(h1:(1<=R.length/\R1=R.drop 1/\s1=false)\/(R.length<1/\R1=R/\s1=true))(hx:(1<=R.length/\x=val (R.take 1))\/(R.length<1/\x=0))(h2:(4<=R1.length/\R2=R1.drop 4/\s2=s1)\/(R1.length<4/\R2=R1/\s2=true))(hy:(4<=R1.length/\y=val (R1.take 4))\/(R1.length<4/\y=0))(h3:(y<=R2.length/\R3=R2.drop y/\s3=s2)\/(R2.length<y/\R3=R2/\s3=true))(h4:(4<=R3.length/\R4=R3.drop 4/\s4=s3)\/(R3.length<4/\R4=R3/\s4=true))(hz:(4<=R3.length/\z=val (R3.take 4))\/(R3.length<4/\z=0)):
 x=kind/\y=body.length/\y<=R2.length/\R2.take y=body/\z=bO (be 1 kind++be 4 body.length++body)/\R4=rest/\s4=false/\R.length-R3.length=5+body.length/\R3.length<=R.length/\R.take (5+body.length)=be 1 kind++be 4 body.length++body:=by
 obtain⟨s,e⟩:∃s,s=be 1 kind++be 4 body.length++body:=⟨_,rfl⟩;have f:s.length=5+body.length:=by rw[e];exact jV
 have i:R=be 1 kind++(be 4 body.length++(body++(be 4 (bO s)++rest))):=by
  rw[hR,kJ,e];simp only[A_]
 have m:R.length=9+body.length+rest.length:=by rw[hR,a_,eG]
 have b:R1=be 4 body.length++(body++(be 4 (bO s)++rest))/\s1=false:=by
  rcases h1 with ⟨_,h,a⟩|⟨h,_⟩
  ·exact⟨by rw[h,i,List.drop_left' (aC 1 kind)],a⟩
  omega
 have j:x=kind:=by
  rcases hx with ⟨_,h⟩|⟨h,_⟩
  ·rw[h,i,List.take_left' (aC 1 kind),ie];exact Nat.mod_eq_of_lt (by omega)
  omega
 have n:R1.length=8+body.length+rest.length:=by rw[b.1,a_,a_,a_,aC,aC];omega
 have c:R2=body++(be 4 (bO s)++rest)/\s2=false:=by
  rcases h2 with ⟨_,h,a⟩|⟨h,_⟩
  ·exact⟨by rw[h,b.1,List.drop_left' (aC 4 _)],by rw[a,b.2]⟩
  omega
 have k:y=body.length:=by
  rcases hy with ⟨_,h⟩|⟨h,_⟩
  ·rw[h,b.1,List.take_left' (aC 4 _),ie];exact Nat.mod_eq_of_lt (by omega)
  omega
 subst k;have o:R2.length=4+body.length+rest.length:=by rw[c.1,a_,a_,aC];omega
 have d:R3=be 4 (bO s)++rest/\s3=false:=by
  rcases h3 with ⟨_,h,a⟩|⟨h,_⟩
  ·exact⟨by rw[h,c.1,List.drop_left' rfl],by rw[a,c.2]⟩
  omega
 have p:R3.length=4+rest.length:=by rw[d.1,a_,aC]
 have g:R4=rest/\s4=false:=by
  rcases h4 with ⟨_,h,a⟩|⟨h,_⟩
  ·exact⟨by rw[h,d.1,List.drop_left' (aC 4 _)],by rw[a,d.2]⟩
  omega
 have l:z=bO s:=by
  rcases hz with ⟨_,h⟩|⟨h,_⟩
  ·have:=iL s;rw[h,d.1,List.take_left' (aC 4 _),ie];exact Nat.mod_eq_of_lt (by omega)
  omega
 rw[<-e];refine⟨j,rfl,by omega,by rw[c.1,List.take_left' rfl],l,g.1,g.2,by omega,by omega,?_⟩;rw[hR,kJ,<-e,A_,List.take_left' f]
theorem BV.cut {a:Option Addr}{c:Nat}(h:BV w (.slice a R.length c) R){k:Nat}(hk:k<=R.length):BV w (.slice a k c) (R.take k):=by
 rcases h with ⟨rfl,h⟩|⟨g,b,d,e,m,f,j,l⟩
 ·cases h
  obtain rfl:k=0:=by simpa using hk
  exact .inl ⟨rfl,rfl⟩
 cases e
 refine .inr ⟨g,b,c,by rw[l_,U_ hk],by rw[l_];omega,⟨f.1,by rw[l_];omega⟩,j,λi hi=>?_⟩;rw[l_] at hi;rw[List.getElem_take];exact l i (by omega)
theorem qW (cb:Nat)(v:Value)(kind m:Nat)(body T:List UInt8)(w:World)(hC:Cur w cb v false)(hV:BV w v T)(hb:body.length<1000)(hm:m<9+body.length)(hT:T=(kJ kind body).take m):
 c_ 113 #[Px cb] w λe w'=>e=.returned (.tuple #[.agg eD,.bool false])/\w.grownBy w' (some cb):=by
 obtain⟨a,c,rfl,ac,ad,ae⟩:=hV.len;have af:cb<w.heap.size:=(j_.1 hC).1;have V:Cur (w.alloc (.cells eD 140)) cb (.slice a T.length c) false:=hC.grown (v_ _ _ _);have V0:BV (w.alloc (.cells eD 140)) (.slice a T.length c) T:=hV.grown (v_ _ _ _);have c0:=hC.c0;have h1:=vM cb _ false T _ V V0;have HT:=hd hT;clear hT;clear hC hV V;go_enter func113,ntmps113;go_wp2_with fail;go_fit h1;rintro e w1 ⟨x,rfl,r⟩;obtain⟨v1,s1,H,⟨B,C,N,f,M⟩,_⟩:=r.next;have h2:=uT cb v1 s1 H w1 B C;clear h1 r;go_wp2_with fail;go_fit h2;rintro e w2 ⟨y,rfl,s⟩;obtain⟨v2,s2,J,⟨D,E,P,g,O⟩,L⟩:=s.next
 have ab:y<4294967296:=by
  rcases L with ⟨h,K⟩|⟨_,K⟩
  ·rw[K];exact ib 4 _ (by rw[l_,U_ h])
  rw[K];decide
 have aj:IntKind.u64.wrap (y:Int)=y:=gA (by omega) (by omega);have h3:=gD cb y v2 s2 J w2 D E (by omega);clear h2 s;go_wp2_with fail;go_fit h3;rintro e w3 t;obtain⟨u,v3,s3,q,rfl,⟨ua,un,uc,rfl⟩,⟨j,k,R,l,Q⟩,_⟩:=t.next;obtain⟨a3,c3,rfl,ag,ah,ai⟩:=k.len;have h4:=uT cb _ s3 q w3 j k
 have l3:q.length<=T.length:=by
  have i1:H.length<=T.length:=by rcases M with ⟨_,h,_⟩|⟨_,h,_⟩<;>rw[h]<;>simp
  have i2:J.length<=H.length:=by rcases O with ⟨_,h,_⟩|⟨_,h,_⟩<;>rw[h]<;>simp
  have i3:q.length<=J.length:=by rcases Q with ⟨_,h,_⟩|⟨_,h,_⟩<;>rw[h]<;>simp
  omega
 have p0:=j.c0;have aa:((T.length:Int)-(q.length:Int))=((T.length-q.length:Nat):Int):=by omega
 have d:(some w.heap.size:Option Nat)≠some cb:=by simp;omega
 have X3:=hd ((((Bx.new w eD _).grown f d).grown g d).grown l d);have G3:=hd ((((v_ w _ (some cb)).trans f).trans g).trans l);have HH:=hd (HT.out);have W:Hid _:=M;have X:Hid _:=O;have Y:Hid _:=Q;have Z:Hid _:=L;clear h3 t B C N f D E P g j k R l M O Q L HT;go_wp2_with fail;go_fit h4;rintro e w4 ⟨z,rfl,A⟩;obtain⟨v4,s4,R4,⟨F,S,U,n,k4⟩,_⟩:=A.next;obtain rfl:s4=true:=s8 hb hm HH.out W.out X.out Z.out Y.out k4;have q1:=F.c1;have b:=X3.out.grown n d;have G4:=hd (G3.out.trans n);have n0:=b.cell (i:=0) rfl;have n1:=b.cell (i:=1) rfl;have n2:=b.cell (i:=2) rfl;have n3:=b.cell (i:=3) rfl;have n4:=b.cell (i:=4) rfl;have n5:=b.cell (i:=5) rfl;have nf:=b.fr;have G:=hd b;clear h4 A F S U n k4 b W X Y Z HH X3 G3;go_wp2;have p:=Bx.set6 G.out (I 0) (I 0) (Zn) (I 0) (.bool false) (I 0);have z0:=p.cell (i:=0) rfl;have z1:=p.cell (i:=1) rfl;have z2:=p.cell (i:=2) rfl;have z3:=p.cell (i:=3) rfl;have z4:=p.cell (i:=4) rfl;have z5:=p.cell (i:=5) rfl;refine bodyPost_ret (v:=.tuple #[.agg eD,.bool false]) (by simp[results,results113,go_sem,z0,z1,z2,z3,z4,z5,eD]) rfl ⟨rfl,?_⟩;have o:=b_ w.heap.size;exact bX (bX (bX (bX (bX (bX G4.out o _ _) o _ _) o _ _) o _ _) o _ _) o _ _
theorem td (lane num:Nat)(pass:Bool)(ev:Value)(w:World)(hnum:num<9223372036854775808)(s:List UInt8)(hs:s=be 1 4++be 4 9++(be 1 (cJ pass)++be 8 num)):
 c_ 132 #[.agg #[I 4,I lane,I num,.bool pass,ev]] w λe w'=>e=.returned (.string (bs (s++be 4 (bO s))))/\Bl w w':=by
 have K:(bs (be 1 (cJ pass))).size=1:=by rw[bh,aC]
 have H:(bs (be 8 num)).size=8:=by rw[bh,aC]
 have E:(bs (be 1 4)).size=1:=by rw[bh,aC]
 have F:∀n,(bs (be 4 n)).size=4:=λn=>by rw[bh,aC]
 have x:bs (be 1 (cJ pass))++bs (be 8 num)=bs (be 1 (cJ pass)++be 8 num):=bo _ _;have J:(bs (be 1 (cJ pass)++be 8 num)).size=9:=by rw[bh,a_,aC,aC]
 have y:bs (be 1 4)++bs (be 4 9)=bs (be 1 4++be 4 9):=bo _ _;have z:bs (be 1 4++be 4 9)++bs (be 1 (cJ pass)++be 8 num)=bs s:=by rw[hs];exact bo _ _
 have A:bs s++bs (be 4 (bO s))=bs (s++be 4 (bO s)):=bo _ _;have G:(bs (be 1 4++be 4 9)).size=5:=by rw[bh,a_,aC,aC]
 have l:(bs s).size=14:=by rw[hs,bh,a_,a_,a_,aC,aC,aC,aC]
 have r:∀w,c_ 182 #[.string (bs s)] w λe w'=>e=.returned (I (bO s))/\w'=w:=λw=>by
  have:=gZ (bs s) w (by rw[l];decide);rwa [lY] at this
 have B:=iL s;have q:Hid (∀w,c_ 180 #[I ((cJ pass:Nat):Int),I 1] w λe w'=>e=.returned (.string (bs (be 1 (cJ pass))))/\Bl w w'):=λw=>eU (cJ pass) w (by cases pass<;>decide);clear hs;cases pass
 all_goals
  simp only[cJ,if_true,if_false,Bool.false_eq_true] at *;go_enter func132,ntmps132;go_wp2_with fail;go_fit (q.out _);rintro e o ⟨rfl,a⟩;have m:o.cell? ⟨w.heap.size,0,none⟩=some (I 4):=ae a (by simp);have u:o.cell? ⟨w.heap.size,2,none⟩=some (I num):=ae a (by simp);have v:=ae a ((Bx.new w #[I 4,I lane,I num,.bool _,ev] 168).cell (i:=3) rfl);have f:Hid _:=a;clear a;go_wp2_with fail;go_fit (mr num _ hnum);rintro e p ⟨rfl,b⟩;have m:p.cell? ⟨w.heap.size,0,none⟩=some (I 4):=ae b m;have g:Hid _:=b;clear b;go_wp2_with fail;go_fit (eU 4 p (by omega));rintro e t ⟨rfl,c⟩;have h:Hid _:=c;clear c;go_wp2_with fail;go_fit (eT 9 t (by omega));rintro e C ⟨rfl,d⟩;have j:Hid _:=d;clear d;go_wp2_with fail;go_fit (r _);rintro e w' ⟨rfl,rfl⟩;go_wp2_with fail;go_fit (eT (bO s) _ (by omega));rintro e D ⟨rfl,k⟩;go_wp2_with fail;go_ret;exact⟨rfl,aK (aK (aK (aK (gC f.out) g.out) h.out) j.out) k⟩
variable{T:Nat->Prop}{u:Value}
theorem ai.set (h:ai w w1 S)(hb:S b\/w.heap.size<=b):ai w (w1.setCell ⟨b,i,none⟩ u) S:=
 h.trans (ai.of_grown (ah _ _ _ _) (S:=λk=>k=b) λk hk=>by cases hk;rfl) λk hk=>by subst hk;exact hb
theorem ai.drew (h:ai w.drew w' S):ai w w' S:=⟨h.os,h.tape,h.output,h.size,h.block⟩
theorem ai.mono (h:ai w w' S)(hST:∀k,S k->T k):ai w w' T:=⟨h.os,h.tape,h.output,h.size,λk hk hn=>h.block k hk (λx=>hn (hST k x))⟩
theorem EN (yb n m:Nat)(id kind:Nat)(v:Value)(cs:Array Value)(xs:List Value)(w:World)(hB:Bx w yb 201 cs)(h14:cs[14]? =some (I m))(h15:cs[15]? =some v)(hS:Sl w 99 3 v n xs)(hn:n<1048576000)(hm:m<1048576000):
 c_ 170 #[Px yb,I id,I kind] w λe w'=>e=.returned (.tuple #[])/\∃v',Bx w' yb 201 ((cs.setIfInBounds 14 (I ((m:Int)+1))).setIfInBounds 15 v')/\Sl w' 99 3 v' (n+1) (xs++[I ((m:Int)+1),I id,I kind])/\(v'.ownBlock=v.ownBlock\/∃g,v'.ownBlock=some g/\w.heap.size<=g)/\ai w w' (λk=>k=yb\/v.ownBlock=some k):=by
 have s:=hB.cell h14;have t:=hB.fr 14;have G:IntKind.i64.wrap ((m:Int)+1)=(m:Int)+1:=wrap_i64 (by omega) (by omega);have l:=hB.set 14 (I ((m:Int)+1));have E:15<cs.size:=(j_.1 h15).1;have z:(cs.setIfInBounds 14 (I ((m:Int)+1)))[15]? =some v:=by rw[Array.getElem?_setIfInBounds_ne (by decide)];exact h15
 have j:(cs.setIfInBounds 14 (I ((m:Int)+1)))[14]? =some (I ((m:Int)+1)):=by rw[Array.getElem?_setIfInBounds];simp;omega
 have f:=hS.ne hB (by decide);have A:Sl (w.setCell ⟨yb,14,none⟩ (I ((m:Int)+1))) 99 3 v n xs:=hS.grown (ah _ _ _ _) (λg hg e=>f (by rw[hg];exact e.symm));have D:Hid (ai w (w.setCell ⟨yb,14,none⟩ (I ((m:Int)+1))) (λk=>k=yb\/v.ownBlock=some k)):=(ai.refl w _).set (.inl (.inl rfl))
 have B:∀w2,w2.heap=(w.setCell ⟨yb,14,none⟩ (I ((m:Int)+1))).heap->c_ 205 #[.pointer (some ⟨yb,15,none⟩),.agg #[I ((m:Int)+1),I id,I kind]] w2 λe w'=>e=.returned (.tuple #[])/\∃v',Bx w' yb 201 ((cs.setIfInBounds 14 (I ((m:Int)+1))).setIfInBounds 15 v')/\Sl w' 99 3 v' (n+1) (xs++[I ((m:Int)+1),I id,I kind])/\(v'.ownBlock=v.ownBlock\/∃g,v'.ownBlock=some g/\w2.heap.size<=g)/\ai w2 w' (λk=>k=yb\/v.ownBlock=some k):=λw2 h2=>
  B5 yb 15 n _ _ _ _ v _ xs w2 (by unfold Bx at l ⊢;rw[h2];exact l) z (A.kept λg _=>by rw[h2]) f hn
 have x:=l.cell j;clear hB hS A l;go_enter func170,ntmps170;go_upto_region 1 with fail;generalize i:w.setCell ⟨yb,14,none⟩ (I ((m:Int)+1))=C at *;have y:C.heap.size=w.heap.size:=by rw[<-i];simp
 have u:=B C.drew rfl;clear i s t B;go_region_held_law (λw'=>w'.cell? ⟨yb,14,none⟩=some (I ((m:Int)+1))) (go_keep) ((go_at_call 205;refine u.mono ?_;rintro e F ⟨rfl,J,a,d,b,c⟩;have H:F.cell? ⟨yb,14,none⟩=some (I ((m:Int)+1)):=a.cell (by rw[Array.getElem?_setIfInBounds_ne (by decide)];exact j);have o:Hid _:=a;have r:Hid _:=d;have p:Hid _:=b;have q:Hid _:=c;clear a d b c))
 all_goals
  refine be_ ⟨rfl,_,o.out,r.out,?_,?_⟩
  ·exact p.out.imp (λh=>h) (λ⟨g,h1,h2⟩=>⟨g,h1,by rw[<-y];exact h2⟩)
  exact D.out.trans (ai.drew q.out) λk h=>.inl h
variable{α β:Type}{lane ord:α->Nat}
def rkG {α:Type}(lane:α->Nat)(q:List α)(L:Nat):List α:=(List.range L).flatMap λl=>q.filter λx=>lane x==l
theorem gF (lane:α->Nat)(q:List α)(L:Nat):rkG lane q (L+1)=rkG lane q L++q.filter λx=>lane x==L:=by
 rw[rkG,List.range_succ,r_];simp[rkG]
theorem fJ (lane:α->Nat)(q:List α):∀L,(rkG lane q L).Perm (q.filter λx=>decide (lane x<L))
 |0=>by simp[rkG]
 |L+1=>by
  rw[gF]
  have h:=List.filter_append_perm (λx=>decide (lane x<L)) (q.filter λx=>decide (lane x<L+1))
  rw[List.filter_filter,List.filter_filter] at h
  have a:(q.filter λx=>decide (lane x<L)&&decide (lane x<L+1))=q.filter λx=>decide (lane x<L):=by
   congr 1;funext x;by_cases h1:lane x<L
   ·simp[h1];omega
   simp[h1]
  have b:(q.filter λx=>(!decide (lane x<L))&&decide (lane x<L+1))=q.filter λx=>lane x==L:=by
   congr 1;funext x;rw[Bool.eq_iff_iff];simp only[Bool.and_eq_true,Bool.not_eq_true',decide_eq_false_iff_not,decide_eq_true_eq,beq_iff_eq];omega
  rw[a,b] at h;exact((fJ lane q L).append_right _).trans h
theorem eX {q:List α}(h:∀x∈q,lane x<L):(rkG lane q L).Perm q:=by
 have:=fJ lane q L;rwa [List.filter_eq_self.2 (λx hx=>by simpa using h x hx)] at this
theorem jX (lane:β->Nat)(f:α->β)(q:List α)(L:Nat):rkG lane (q.map f) L=(rkG (λx=>lane (f x)) q L).map f:=by
 rw[rkG,rkG,List.map_flatMap];congr 1;funext l;rw[List.filter_map];rfl
def Bef {α:Type}(lane ord:α->Nat)(x y:α):Prop:=lane x<lane y\/(lane x=lane y/\ord x<ord y)
theorem Bef.asym {x y:α}(h:Bef lane ord x y)(h':Bef lane ord y x):False:=by
 unfold Bef at h h';omega
theorem uW {q:List α}{x:α}(h:x∈rkG lane q L):lane x<L:=by
 have:=(fJ lane q L).mem_iff.1 h;simpa using (Z_.1 this).2
theorem mA {q:List α}(h:q.Pairwise λx y=>ord x<ord y):∀L,(rkG lane q L).Pairwise (Bef lane ord)
 |0=>by simp[rkG]
 |L+1=>by
  rw[gF,List.pairwise_append]
  refine⟨mA h L,?_,λx hx y hy=>?_⟩
  ·have h2:=h.filter (λx=>lane x==L)
   refine List.Pairwise.imp_of_mem (fun {a b} ha hb hab=>?_) h2
   have c:=(Z_.1 ha).2
   have d:=(Z_.1 hb).2
   simp only[beq_iff_eq] at c d
   exact .inr ⟨by omega,hab⟩
  have e:=uW hx
  have h2:=(Z_.1 hy).2
  simp only[beq_iff_eq] at h2
  exact .inl (by omega)
theorem oL {R:α->α->Prop}(asym:∀x y,R x y->R y x->False):∀{l m:List α},l.Perm m->l.Pairwise R->m.Pairwise R->l=m
 |[],m,h,_,_=>(List.nil_perm.1 h).symm
 |x::l,[],h,_,_=>by simpa using h.length_eq
 |x::l,y::m,h,hl,hm=>by
  rw[List.pairwise_cons] at hl hm
  have hxy:x=y:=by
   have a:x∈y::m:=h.mem_iff.1 (by simp);have b:y∈x::l:=h.mem_iff.2 (by simp);rcases R_.1 a with e|a
   ·exact e
   rcases R_.1 b with e|b
   ·exact e.symm
   exact(asym _ _ (hl.1 y b) (hm.1 x a)).elim
  subst hxy;rw[oL asym ((List.perm_cons x).1 h) hl.2 hm.2]
abbrev xL:=Nat->World->Nat->Value->Nat->Bool->Nat->Prop
def xM (kind:Nat)(body:List UInt8)(Q:xL):Prop:=
 (∀W u,BV W u body->Calls prog 166 #[I kind,u] W λe W'=>(∃(l:Nat) (ea:Option Addr) (en ec i:Nat) (p:Bool) (q:Nat),e=.returned (.agg #[I kind,I l,.slice ea en ec,I i,.bool p,I q])/\Q W.heap.size W' l (.slice ea en ec) i p q)/\Bl W W')/\
 ∀B W b o u l ev i p q,b<B->Q B W l ev i p q->Q B (W.setCell ⟨b,o,none⟩ u) l ev i p q
theorem pL (cb:Nat)(v:Value)(kind:Nat)(body rest R:List UInt8)(Q:xL)(w:World)(hC:Cur w cb v false)(hV:BV w v R)(hk:kind<256)(hb:body.length<1000)(hR:R=kJ kind body++rest)(hB:Hid (xM kind body Q)):
 c_ 113 #[Px cb] w λe w'=>(∃(l:Nat) (ea:Option Addr) (en ec i:Nat) (p:Bool) (q B:Nat),e=.returned (.tuple #[.agg #[I kind,I l,.slice ea en ec,I i,.bool p,I q],.bool true])/\w.heap.size<B/\Q B w' l (.slice ea en ec) i p q)/\(∃v',Cur w' cb v' false/\BV w' v' rest/\v'.ownBlock=v.ownBlock)/\w.grownBy w' (some cb):=by
 obtain⟨a,c,rfl,ai,aj,ak⟩:=hV.len;have ar:cb<w.heap.size:=(j_.1 hC).1;have C0:Cur (w.alloc (.cells eD 140)) cb (.slice a R.length c) false:=hC.grown (v_ _ _ _);have V0:BV (w.alloc (.cells eD 140)) (.slice a R.length c) R:=hV.grown (v_ _ _ _);have c0:=hC.c0;have h1:=vM cb _ false R _ C0 V0;have HR:=hd hR
 have ao:Hid (∀b,w.heap.size<=b->(Value.slice a R.length c).ownBlock≠some b):=λb hb=>by
  rcases hV with ⟨_,h⟩|⟨g,av,aq,h,_,_,hg,_⟩
  ·rw[h];simp[Value.ownBlock]
  rw[h];intro e;have:g=b:=by simpa[Value.ownBlock] using e
  omega
 clear hR hC hV;go_enter func113,ntmps113;go_wp2_with fail;go_fit h1;rintro e w1 ⟨x,rfl,V⟩;obtain⟨v1,s1,R1,⟨G,H,ac,t,k1⟩,hx⟩:=V.next;have A1:=V0.keep C0 ⟨_,_,_,rfl⟩ t;have h2:=uT cb v1 s1 R1 w1 G H;clear h1 V;go_wp2_with fail;go_fit h2;rintro e w2 ⟨y,rfl,W⟩;obtain⟨v2,s2,R2,⟨J,K,ad,A,k2⟩,hy⟩:=W.next;have A2:=A1.keep G H.form A
 have aa:y<4294967296:=by
  rcases hy with ⟨h,h'⟩|⟨_,h'⟩
  ·rw[h'];exact ib 4 _ (by rw[l_,U_ h])
  rw[h'];decide
 have ap:IntKind.u64.wrap (y:Int)=y:=gA (by omega) (by omega);have h3:=gD cb y v2 s2 R2 w2 J K (by omega);clear h2 W;go_wp2_with fail;go_fit h3;rintro e w3 X;obtain⟨u,v3,s3,T,rfl,⟨ua,un,uc,rfl⟩,⟨C,L,ae,D,k3⟩,hU⟩:=X.next;have A3:=A2.keep J K.form D;obtain⟨a3,c3,rfl,al,am,an⟩:=L.len;have h4:=uT cb _ s3 T w3 C L
 have l3:T.length<=R.length:=by
  have i1:R1.length<=R.length:=by rcases k1 with ⟨_,h,_⟩|⟨_,h,_⟩<;>rw[h]<;>simp
  have i2:R2.length<=R1.length:=by rcases k2 with ⟨_,h,_⟩|⟨_,h,_⟩<;>rw[h]<;>simp
  have i3:T.length<=R2.length:=by rcases k3 with ⟨_,h,_⟩|⟨_,h,_⟩<;>rw[h]<;>simp
  omega
 have p0:=C.c0;have Z:((R.length:Int)-(T.length:Int))=((R.length-T.length:Nat):Int):=by omega
 have r:(some w.heap.size:Option Nat)≠some cb:=by simp;omega
 have X3:=hd ((((Bx.new w eD _).grown t r).grown A r).grown D r);have G3:=hd ((((v_ w _ (some cb)).trans t).trans A).trans D);have K3:=hd C;have O3:=hd (ae.trans (ad.trans ac));have VA:=hd A3;have VU:=hd hU;have E1:Hid _:=k1;have EX:Hid _:=hx;have E2:Hid _:=k2;have E3:Hid _:=k3;have EY:Hid _:=hy;clear h3 X G H ac t J K ad A C L ae D k1 k2 k3 hy hx A1 A2 A3 V0 C0 hU;go_wp2_with fail;go_fit h4;rintro e F ⟨z,rfl,Y⟩;obtain⟨v4,s4,R4,⟨M,af,ag,m,k4⟩,s⟩:=Y.next;obtain⟨ex,ey,ab,eb,ez,er,rfl,el,_,et⟩:=s9 hk hb HR.out E1.out EX.out E2.out EY.out E3.out k4 s;have q1:=M.c1
 have W4:BV F (.slice a (5+body.length) c) (be 1 kind++be 4 body.length++body):=by
  have:=(VA.out.keep K3.out ⟨_,_,_,rfl⟩ m).cut (k:=5+body.length) (by omega);rwa [et] at this
 have hS:=qP _ _ F W4.at (by rw[jV];omega)
 have U4:Hid (BV F (.slice ua un uc) body):=by
  have:=VU.out ab;rw[eb] at this;exact this.keep K3.out ⟨_,_,_,rfl⟩ m
 have X4:=hd (X3.out.grown m r);have G4:=hd (G3.out.trans m);have K4:Hid (∃v4,Cur F cb v4 false/\BV F v4 rest/\v4.ownBlock=(Value.slice a R.length c).ownBlock):=⟨v4,M,by rw[<-er];exact af,ag.trans O3.out⟩;subst ex;subst ez;rw[el] at *;clear el;have au:wrap64 (x:Int)=x:=by unfold wrap64;omega
 have U:=hB.out.1 F (.slice ua un uc) U4.out;clear h4 Y M af ag m k4 s E1 EX E2 E3 EY HR VU VA K3 G3 X3 O3 W4 U4;clear ey eb er et ab ap aa Z l3 p0 c0 ai aj ak al am an;generalize bO (be 1 x++be 4 body.length++body)=S at hS ⊢;go_wp2_with fail;go_fit hS;rintro e w' ⟨rfl,rfl⟩;clear hS;go_wp2_with fail;go_fit U;rintro e w5 ⟨⟨l,ea,en,ec,i,p,q,rfl,hQ⟩,d⟩;have o:F.grownBy w5 none:=⟨d.os,d.tape,d.output,d.size,λk hk _=>d.block k hk⟩;have n:=X4.out.grown o (by simp)
 have K5:Hid (∃E,Cur w5 cb E false/\BV w5 E rest/\E.ownBlock=(Value.slice a R.length c).ownBlock):=by
  obtain⟨E,g1,g2,g3⟩:=K4.out;exact⟨E,g1.grown o,g2.grown o,g3⟩
 have G5:=hd (G4.out.trans ⟨d.os,d.tape,d.output,d.size,λk hk _=>d.block k hk⟩);have HQ:=hd hQ;have f:=X4.out.lt;have n0:=n.cell (i:=0) rfl;have n1:=n.cell (i:=1) rfl;have n2:=n.cell (i:=2) rfl;have n3:=n.cell (i:=3) rfl;have n4:=n.cell (i:=4) rfl;have n5:=n.cell (i:=5) rfl;have nf:=n.fr;have ah:=hd n;have j:w.heap.size≠cb:=by omega
 clear hQ d o n U G4 K4 X4;go_wp2;have s:=Bx.set6 ah.out (I x) (I l) (.slice ea en ec) (I i) (.bool p) (I q);have z0:=s.cell (i:=0) rfl;have z1:=s.cell (i:=1) rfl;have z2:=s.cell (i:=2) rfl;have z3:=s.cell (i:=3) rfl;have z4:=s.cell (i:=4) rfl;have z5:=s.cell (i:=5) rfl;refine bodyPost_ret (v:=.tuple #[.agg #[I x,I l,.slice ea en ec,I i,.bool p,I q],.bool true]) (by simp[results,results113,go_sem,z0,z1,z2,z3,z4,z5]) rfl ⟨⟨l,ea,en,ec,i,p,q,F.heap.size,rfl,f,?_⟩,?_,?_⟩
 ·have P:=hB.out.2;exact P _ _ _ _ _ _ _ _ _ _ f (P _ _ _ _ _ _ _ _ _ _ f (P _ _ _ _ _ _ _ _ _ _ f (P _ _ _ _ _ _ _ _ _ _ f (P _ _ _ _ _ _ _ _ _ _ f (P _ _ _ _ _ _ _ _ _ _ f HQ.out)))))
 ·obtain⟨E,g1,g2,g3⟩:=K5.out;have O:E.ownBlock≠some w.heap.size:=by rw[g3];exact ao.out _ (b_ _)
  exact⟨E,(((((g1.other j _ _).other j _ _).other j _ _).other j _ _).other j _ _).other j _ _,(((((g2.other O _ _).other O _ _).other O _ _).other O _ _).other O _ _).other O _ _,g3⟩
 have N:=b_ w.heap.size;exact bX (bX (bX (bX (bX (bX G5.out N _ _) N _ _) N _ _) N _ _) N _ _) N _ _
end
end Go.Proofs.YtgamgomepdfgdaaGreat
