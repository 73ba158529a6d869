import Derived.Lib.SliceRun
import Derived.Shelf.SlSortCmp.InsertionK
import Derived.Test.YtgamgomepdfgdaaGreatAM06
set_option maxRecDepth 100000
set_option maxHeartbeats 8000000
namespace Go.Proofs.YtgamgomepdfgdaaGreat
open Go.RowKit Go.Proofs.Tryz
def cw (age:Nat)(x:Pw):Nat:=x.1.lane-x.1.passed/age
theorem vo (age i l p o:Nat)(ea:Option Addr)(en ec:Nat)(w:World)(ha:1<=age/\age<9)(hl:l<1000)(hp:p<4611686018427387904):
 c_ 297 #[.agg #[I i,I l,I p,I age,I o,.slice ea en ec]] w λe w'=>e=.returned (I ((l-p/age:Nat):Int))/\Bl w w'/\w.drawn<=w'.drawn:=by
 have f:((age:Int)==0)=false:=by simp;omega
 obtain⟨d,hd⟩:∃d,d=p/age:=⟨_,rfl⟩;have k:Int.tdiv (p:Int) (age:Int)=(d:Int):=by rw[hd,Int.ofNat_tdiv]
 have g:(p:Int)/(age:Int)=(d:Int):=by rw[hd,Int.natCast_ediv]
 have j:d<=p:=by rw[hd];exact Nat.div_le_self _ _
 rw[<-hd];clear hd;have m:IntKind.i64.wrap ((l:Int)-d)=(l:Int)-d:=wrap_i64 (by omega) (by omega);have h:wrap64 ((l:Int)-d)=(l:Int)-d:=by unfold wrap64;omega
 have a:max 0 ((l:Int)-d)=((l-d:Nat):Int):=by omega
 have b:=Bx.new w #[I i,I l,I p,I age,I o,.slice ea en ec] 193;have n:=b.c 1 (I l);have q:=b.c 2 (I p);have r:=b.c 3 (I age);clear b;go_enter func297,ntmps297;go_upto_region 1 with fail;go_region_held_law (λw'=>w'.cell? ⟨w.heap.size,1,none⟩=some (I l)/\w'.cell? ⟨w.heap.size,2,none⟩=some (I p)/\w'.cell? ⟨w.heap.size,3,none⟩=some (I age)) (go_keep) (fail)
 all_goals
  go_wp2_with fail;go_ret;refine⟨?_,aw _ _,Nat.le_succ _⟩;first|rfl|(rw[<-a];rfl)|(rw[<-a])
section
variable{n:Nat}{w0 w1 w2:World}
theorem m9 (h1:Below w0.drew.heap.size w0.drew w1)(h2:Bl w1 w2)(hn:n<=w0.heap.size):Below n w0 w2:=
 ⟨h2.os.trans h1.os,h2.tape.trans h1.tape,h2.output.trans h1.output,e_ h1.size h2.size,λk hk=>(h2.block k (h_ hk (e_ hn h1.size))).trans (h1.block k (h_ hk hn))⟩
theorem vp (age i l p o i' l' p' o':Nat)(ea:Option Addr)(en ec:Nat)(ea':Option Addr)(en' ec':Nat)(w:World)(ha:1<=age/\age<9)(hl:l<1000)(hp:p<4611686018427387904)(hl':l'<1000)(hp':p'<4611686018427387904)(r:Bool)(hr:r=true↔(l-p/age<l'-p'/age\/(l-p/age=l'-p'/age/\o<o'))):
 c_ 296 #[.agg #[I i,I l,I p,I age,I o,.slice ea en ec],.agg #[I i',I l',I p',I age,I o',.slice ea' en' ec']] w λe w'=>e=.returned (.bool r)/\Bl w w'/\w.drawn<=w'.drawn:=by
 have M:Bl w ((w.alloc (.cells #[I i,I l,I p,I age,I o,.slice ea en ec] 193)).alloc (.cells #[I i',I l',I p',I age,I o',.slice ea' en' ec'] 193)):=aK (af _ _) (af _ _);have N:w.drawn<=((w.alloc (.cells #[I i,I l,I p,I age,I o,.slice ea en ec] 193)).alloc (.cells #[I i',I l',I p',I age,I o',.slice ea' en' ec'] 193)).drawn:=b_ _;have j:=(Bx.new w #[I i,I l,I p,I age,I o,.slice ea en ec] 193).mk (.cells #[I i',I l',I p',I age,I o',.slice ea' en' ec'] 193);have g:=Bx.new (w.alloc (.cells #[I i,I l,I p,I age,I o,.slice ea en ec] 193)) #[I i',I l',I p',I age,I o',.slice ea' en' ec'] 193;have e1:(w.alloc (.cells #[I i,I l,I p,I age,I o,.slice ea en ec] 193)).heap.size=w.heap.size+1:=by simp
 rw[e1] at g;clear e1;go_enter func296,ntmps296;go_upto_region 1 with fail;generalize (w.alloc (.cells #[I i,I l,I p,I age,I o,.slice ea en ec] 193)).alloc (.cells #[I i',I l',I p',I age,I o',.slice ea' en' ec'] 193)=w0 at *;have P:=j.c 0 (I i);have Q:=j.c 1 (I l);have R:=j.c 2 (I p);have S:=j.c 3 (I age);have T:=j.c 4 (I o);have U:=j.c 5 (.slice ea en ec);have V:=g.c 0 (I i');have X:=g.c 1 (I l');have Y:=g.c 2 (I p');have Z:=g.c 3 (I age);have b4:=g.c 4 (I o');have b5:=g.c 5 (.slice ea' en' ec');have h:=hd M;have O:=hd N;have Hr:=hd hr;clear M N j g hr;go_cut [5,6] from 7 (λu v wz=>u=I ((l-p/age:Nat):Int)/\v=I ((l'-p'/age:Nat):Int)/\wz.cell? ⟨w.heap.size,4,none⟩=some (I o)/\wz.cell? ⟨w.heap.size+1,4,none⟩=some (I o')/\Bl w wz/\w.drawn<=wz.drawn)
 case first=>
  go_region_held_law (λw'=>w'.cell? ⟨w.heap.size,0,none⟩=some (I i)/\w'.cell? ⟨w.heap.size,1,none⟩=some (I l)/\w'.cell? ⟨w.heap.size,2,none⟩=some (I p)/\w'.cell? ⟨w.heap.size,3,none⟩=some (I age)/\w'.cell? ⟨w.heap.size,4,none⟩=some (I o)/\w'.cell? ⟨w.heap.size,5,none⟩=some (.slice ea en ec)/\w'.cell? ⟨w.heap.size+1,0,none⟩=some (I i')/\w'.cell? ⟨w.heap.size+1,1,none⟩=some (I l')/\w'.cell? ⟨w.heap.size+1,2,none⟩=some (I p')/\w'.cell? ⟨w.heap.size+1,3,none⟩=some (I age)/\w'.cell? ⟨w.heap.size+1,4,none⟩=some (I o')/\w'.cell? ⟨w.heap.size+1,5,none⟩=some (.slice ea' en' ec')) (go_keep) (first|(go_at_call 297;go_fit (vo age i l p o ea en ec _ ha hl hp);rintro e w2 ⟨rfl,b,f⟩;have aa:=ae b k;have ab:=ae b m;have ac:=ae b n;have ad:=ae b q;have K:=ae b s;have ag:=ae b t;have ah:=ae b z;have ai:=ae b A;have aj:=ae b B;have ak:=ae b C;have L:=ae b D;have al:=ae b E;have G:=hd b;have J:=hd f;clear b f)|(go_at_call 297;go_fit (vo age i' l' p' o' ea' en' ec' _ ha hl' hp');rintro e w2 ⟨rfl,b,f⟩;have aa:=ae b k;have ab:=ae b m;have ac:=ae b n;have ad:=ae b q;have K:=ae b s;have ag:=ae b t;have ah:=ae b z;have ai:=ae b A;have aj:=ae b B;have ak:=ae b C;have L:=ae b D;have al:=ae b E;have G:=hd b;have J:=hd f;clear b f)|(go_at_call 297;go_fit (vo age i l p o ea en ec _ ha hl hp);rintro e w1 ⟨rfl,a,d⟩;have k:=ae a P;have m:=ae a Q;have n:=ae a R;have q:=ae a S;have s:=ae a T;have t:=ae a U;have z:=ae a V;have A:=ae a X;have B:=ae a Y;have C:=ae a Z;have D:=ae a b4;have E:=ae a b5;have F:=hd a;have H:=hd d;clear a d)|(go_at_call 297;go_fit (vo age i' l' p' o' ea' en' ec' _ ha hl' hp');rintro e w1 ⟨rfl,a,d⟩;have k:=ae a P;have m:=ae a Q;have n:=ae a R;have q:=ae a S;have s:=ae a T;have t:=ae a U;have z:=ae a V;have A:=ae a X;have B:=ae a Y;have C:=ae a Z;have D:=ae a b4;have E:=ae a b5;have F:=hd a;have H:=hd d;clear a d))
  all_goals
   go_wp2_with fail;go_meet
   case rel=>exact⟨rfl,rfl,K,L,h.out.trans (m9 F.out G.out h.out.size),e_ (e_ (e_ O.out (Nat.le_succ _)) H.out) J.out⟩
 obtain⟨rfl,rfl,g4,h4,hW,hN⟩:=hcut;rename World=>W;have HW:=hd hW;generalize l-p/age=x at *;generalize l'-p'/age=y at *;have HN:=hd hN;clear hN hW P Q R S T U V X Y Z b4 b5 h;by_cases hxy:x=y
 ·subst hxy
  have e:Hid (decide (o<o')=r):=by
   show _=_;rw[Bool.eq_iff_iff,Hr.out,decide_eq_true_eq];omega
  go_wp2_with fail;go_ret;exact⟨by rw[<-e.out];rfl,HW.out,HN.out⟩
 have an:((x:Int)==(y:Int))=false:=by simp;omega
 have am:¬((x:Int)=(y:Int)):=by omega
 have e:Hid (decide (x<y)=r):=by
  show _=_;rw[Bool.eq_iff_iff,Hr.out,decide_eq_true_eq];omega
 go_wp2_with fail;go_ret;exact⟨by rw[<-e.out];rfl,HW.out,HN.out⟩
theorem EQ (n:Nat)(v:Value)(W:World):(method (n+1) 193 v "Before").run prog W=.ok (296,v) W:=by kernel_rfl
theorem ER (age i l p o i' l' p' o':Nat)(ea:Option Addr)(en ec:Nat)(ea':Option Addr)(en' ec':Nat)(w:World)(ha:1<=age/\age<9)(hl:l<1000)(hp:p<4611686018427387904)(hl':l'<1000)(hp':p'<4611686018427387904)(r s:Bool)(hr:r=true↔(l-p/age<l'-p'/age\/(l-p/age=l'-p'/age/\o<o')))(hs:s=true↔(l'-p'/age<l-p/age\/(l'-p'/age=l-p/age/\o'<o))):
 c_ 156 #[.agg #[I i,I l,I p,I age,I o,.slice ea en ec],.agg #[I i',I l',I p',I age,I o',.slice ea' en' ec']] w λe w'=>e=.returned (I (if r then -1 else if s then 1 else 0))/\Bl w w'/\w.drawn<=w'.drawn:=by
 have y:∀W,c_ 296 #[.agg #[I i,I l,I p,I age,I o,.slice ea en ec],.agg #[I i',I l',I p',I age,I o',.slice ea' en' ec']] W λe w'=>e=.returned (.bool r)/\Bl W w'/\W.drawn<=w'.drawn:=λW=>vp age i l p o i' l' p' o' ea en ec ea' en' ec' W ha hl hp hl' hp' r hr;have z:∀W,c_ 296 #[.agg #[I i',I l',I p',I age,I o',.slice ea' en' ec'],.agg #[I i,I l,I p,I age,I o,.slice ea en ec]] W λe w'=>e=.returned (.bool s)/\Bl W w'/\W.drawn<=w'.drawn:=λW=>vp age i' l' p' o' i l p o ea' en' ec' ea en ec W ha hl' hp' hl hp s hs;have u:Hid _:=y;have h:Hid _:=z;have f:Bl w ((w.alloc (.cells #[I i,I l,I p,I age,I o,.slice ea en ec] 193)).alloc (.cells #[I i',I l',I p',I age,I o',.slice ea' en' ec'] 193)):=aK (af _ _) (af _ _);clear y z hr hs hl hp hl' hp';have O:∀(v:Value) (W:World),Sem.run prog (method 460 193 v "Before") W=.ok (296,v) W:=λv W=>EQ 459 v W;go_enter func156,ntmps156;go_wp2_with fail;go_fit (u.out _);rintro e N ⟨rfl,a,q⟩;have d:=(Bx.new w #[I i,I l,I p,I age,I o,.slice ea en ec] 193).mk (.cells #[I i',I l',I p',I age,I o',.slice ea' en' ec'] 193);have b:=Bx.new (w.alloc (.cells #[I i,I l,I p,I age,I o,.slice ea en ec] 193)) #[I i',I l',I p',I age,I o',.slice ea' en' ec'] 193;have x:(w.alloc (.cells #[I i,I l,I p,I age,I o,.slice ea en ec] 193)).heap.size=w.heap.size+1:=by simp
 rw[x] at b;have A:=ae a (d.cell (i:=0) rfl);have B:=ae a (d.cell (i:=1) rfl);have C:=ae a (d.cell (i:=2) rfl);have D:=ae a (d.cell (i:=3) rfl);have E:=ae a (d.cell (i:=4) rfl);have F:=ae a (d.cell (i:=5) rfl);have G:=ae a (b.cell (i:=0) rfl);have H:=ae a (b.cell (i:=1) rfl);have J:=ae a (b.cell (i:=2) rfl);have K:=ae a (b.cell (i:=3) rfl);have L:=ae a (b.cell (i:=4) rfl);have M:=ae a (b.cell (i:=5) rfl);have c:=hd (f.trans (a.mono f.size));have j:=hd q;clear q;have m:=h.out N;clear d b x a f u h;cases r
 ·go_wp2_with fail;go_fit m;rintro e P ⟨rfl,n,t⟩;have g:=hd (c.out.trans (n.mono c.out.size));have k:=hd (e_ j.out t);clear t n m A B C D E F G H J K L M;cases s
  ·go_wp2_with fail;go_ret;exact⟨rfl,g.out,k.out⟩
  go_wp2_with fail;go_ret;exact⟨rfl,g.out,k.out⟩
 go_wp2_with fail;go_ret;exact⟨rfl,c.out,j.out⟩
theorem Co (q:List Pw)(age g off cap:Nat)(w:World)(hS:Sl w 193 6 (s_ g off q.length cap) q.length (q.flatMap (cP age)))(hsl:∀x∈q,bD x.2)(hn:q.length<=16)(hpos:0<q.length):
 c_ 154 #[s_ g off q.length cap] w λe w'=>(∃v',e=.returned v'/\w'.ownsRow w.heap.size 193 6 v' q.length (q.flatMap (cP age)))/\Bl w w':=by
 obtain⟨z,t,k,l,m⟩:=info_parts l8
 have r:Hid (∀o,∀j u,(q.flatMap (cP age))[j]? =some u->(w.alloc o).cell? ((⟨g,off,none⟩:Addr).add j)=some u):=λo j u b=>by
  have e:(⟨g,off,none⟩:Addr).add j=⟨g,off+j,none⟩:=by
   unfold Addr.add;by_cases h:j=0
   ·subst h;simp
   simp[h]
  rw[e];exact(hS.mk o).cell b
 have s:Hid (∀u∈q.flatMap (cP age),u.oneCell'=true):=λu b=>by
  obtain⟨x,y,b⟩:=List.mem_flatMap.1 b;obtain⟨a,n,c,v⟩:=hsl x y;simp only[cP,R_,List.not_mem_nil,or_false] at b;rcases b with rfl|rfl|rfl|rfl|rfl|rfl
  ·rfl
  ·rfl
  ·rfl
  ·rfl
  ·rfl
  rw[v];rfl
 have i:=hd (aR (cP age) 6 (λ_=>rfl) q);have A:Hid (0+q.length<=maxLen):=by show _<=_;unfold maxLen;omega
 have B:Hid ((0+q.length)*64<=140737488355328):=by show _<=_;omega
 have C:Hid (0<0+q.length):=by show _<_;omega
 have p:∀W:World,(binOp .eql 190 (s_ g off q.length cap) (Zn)).run prog W=.ok (.bool false) W:=λW=>Lib.run_eql_slice_nil W _ _ _ _ _ _ _ underlying190;clear hS hsl;go_enter func154,ntmps154;go_wp2_with (at_builtin;refine wpList_append_grows _ rfl _ _ 190 rfl _ z _ 6 64 underlying190 t k l m rfl (by decide) (some ⟨w.heap.size,0,none⟩) 0 0 [] rfl (by intro h;cases h) rfl (by intro _ _ j u b;simp at b) ⟨g,off,none⟩ q.length cap (q.flatMap (cP age)) rfl i.out (r.out _) s.out C.out A.out B.out ?_;intro v3 w3 hown3 hg3);have f:=(af _ _).grown hg3 (by simp) (by simp)
 have d:w3.ownsRow w.heap.size 193 6 v3 q.length (q.flatMap (cP age)):=by
  have:=cp hown3 (base':=w.heap.size) (by simp);simpa using this
 obtain⟨D,E,rfl⟩:=ag d;go_wp2_with fail;go_ret;exact⟨⟨_,rfl,d⟩,f⟩
section
open Go.Shelf
open Go.Sort (grow grow_grow heap_grow_old SWO HoldsK flatK size_flatK get_flatK putCells putRow mapBlock onCells putRowK PermIn SortedIn)
variable{w w':World}
theorem ES (hb:Bl w w')(hd:w.drawn<=w'.drawn):∃q os',w'=grow (w.drewN q) os':=by
 refine⟨w'.drawn-w.drawn,w'.heap.extract w.heap.size w'.heap.size,?_⟩;obtain⟨b,c,d,g,f⟩:=hb
 have e:w.heap++w'.heap.extract w.heap.size w'.heap.size=w'.heap:=by
  apply Array.ext_getElem?;intro k;by_cases hk:k<w.heap.size
  ·rw[Array.getElem?_append_left hk,f k hk]
  rw[Array.getElem?_append_right (by omega),Array.getElem?_extract];by_cases hk2:k<w'.heap.size
  ·rw[if_pos (by omega)];congr 1;omega
  rw[if_neg (by omega),Array.getElem?_eq_none (by omega)]
 have a:w.drawn+(w'.drawn-w.drawn)=w'.drawn:=by omega
 show w'={w with heap:=w.heap++_,drawn:=w.drawn+(w'.drawn-w.drawn)};rw[e,a,<-b,<-c,<-d]
structure Rw where
 val:Pw
 ok:val.1.lane<1000/\val.1.passed<4611686018427387904/\bD val.2
def Cp:Rw:=⟨(⟨0,0,0,0,[]⟩,Zn),by simp,by simp,⟨none,0,0,rfl⟩⟩
def cR (age:Nat)(x:Rw):List Value:=cP age x.val
def eZ (x:Pw):Nat:=x.1.ord
def ltR (age:Nat)(x y:Rw):Bool:=decide (cw age x.val<cw age y.val\/(cw age x.val=cw age y.val/\eZ x.val<eZ y.val))
def wC (age:Nat)(x y:Rw):Int:=if ltR age x y then -1 else if ltR age y x then 1 else 0
theorem i9 (age:Nat)(x y:Rw):ltOf (wC age) x y=ltR age x y:=by
 unfold ltOf wC;cases ltR age x y<;>cases ltR age y x<;>simp
theorem l9 (age:Nat)(x y:Rw):ltR age x y=true↔Bef (cw age) eZ x.val y.val:=by unfold ltR Bef;simp
theorem p9 (age:Nat)(x y:Rw):ltR age x y=false↔¬Bef (cw age) eZ x.val y.val:=by rw[<-l9];simp
theorem EV (age:Nat):SWO (ltOf (wC age)) where
 irrefl x:=by rw[i9,p9];unfold Bef;omega
 trans x y z h1 h2:=by rw[i9,l9] at *;unfold Bef at *;omega
 ntrans x y z h1 h2:=by rw[i9,p9] at *;unfold Bef at *;omega
theorem rn [Inhabited Rw](age:Nat)(l:List Rw):(flatK (cR age) 6 l.toArray).toList=l.flatMap (cR age):=by
 apply List.ext_getElem?;intro t;by_cases ht:t<l.length*6
 ·have a:t/6<l.length:=by omega
  have e:t=t/6*6+t%6:=by omega
  have f:(l.flatMap (cR age))[t]? =(cR age l[t/6])[t%6]? :=by
   conv=>lhs;rw[e]
   exact aq (cR age) 6 (λ_=>rfl) l (t/6) (t%6) a (by omega)
  have c:t<(flatK (cR age) 6 l.toArray).size:=by rw[size_flatK];simpa using ht
  rw[f,Array.getElem?_toList,Array.getElem?_eq_getElem c,<-getElem!_pos _ t c,get_flatK _ _ _ t (by simpa using ht)];have d:(l.toArray)[t/6]! =l[t/6]:=by rw[getElem!_pos l.toArray (t/6) (by simpa using a)];simp
  rw[d];have b:t%6<(cR age l[t/6]).length:=by show t%6<6;omega
  rw[getElem!_pos (cR age l[t/6]) (t%6) b,List.getElem?_eq_getElem b]
 rw[List.getElem?_eq_none (by rw[Array.length_toList,size_flatK];simp;omega),List.getElem?_eq_none (by rw[aR (cR age) 6 (λ_=>rfl)];omega)]
theorem jG [Inhabited Rw](age:Nat)(l:List Rw):(flatK (cR age) 6 l.toArray).size=l.length*6:=by rw[size_flatK];simp
theorem Cq [Inhabited Rw]{w:World}{age g:Nat}{cur:Array Value}{e:TypeId}{l:List Rw}(hb:w.heap[g]? =some (.cells cur e (0,0)))(ht:cur.toList.take (l.length*6)=l.flatMap (cR age)):HoldsK (cR age) 6 w g 0 l.toArray:=by
 intro j hj;have a:j<l.length*6:=by rw[jG] at hj;exact hj
 refine⟨?_,by simp[World.frozen?,hb]⟩;have b:(cur.toList.take (l.length*6))[j]? =(flatK (cR age) 6 l.toArray).toList[j]? :=by rw[ht,rn]
 rw[List.getElem?_take_of_lt a,Array.getElem?_toList,Array.getElem?_toList,Array.getElem?_eq_getElem hj] at b;simp only[World.cell?,hb,O_];simp only[Option.isSome_none,Bool.false_eq_true,if_false];rw[b,getElem!_pos (flatK (cR age) 6 l.toArray) j hj];rfl
theorem qb [Inhabited Rw]{w:World}{age g n:Nat}{os:Array Obj}{cur:Array Value}{e:TypeId}{fr:Nat×Nat}(d:Array Rw)(hb:w.heap[g]? =some (.cells cur e fr)):
 (sortWorldK (cR age) 6 w g 0 n d os).heap[g]? =some (.cells (putCells id 0 (flatK (cR age) 6 d) cur) e fr):=by
 have a:g<w.heap.size:=(j_.1 hb).1;unfold sortWorldK putRowK;rw[heap_grow_old _ _ (by simpa[putRow,mapBlock,Sort.ahead] using a)];simp[putRow,mapBlock,Sort.ahead,Array.getElem?_modify,hb,onCells]
theorem lQ [Inhabited Rw]{w:World}{age g n:Nat}{os:Array Obj}(d:Array Rw):w.grownBy (sortWorldK (cR age) 6 w g 0 n d os) (some g):=by
 unfold sortWorldK putRowK;refine⟨rfl,rfl,rfl,by simp[putRow,mapBlock,Sort.ahead,grow],λk hk hne=>?_⟩;rw[heap_grow_old _ _ (by simpa[putRow,mapBlock,Sort.ahead] using hk)];have:g≠k:=λe=>hne (by rw[e]);simp[putRow,mapBlock,Sort.ahead,Array.getElem?_modify,this]
theorem na (cur F:Array Value)(h:F.size<=cur.size):(putCells id 0 F cur).toList.take F.size=F.toList:=by
 apply List.ext_getElem?;intro j;by_cases hj:j<F.size
 ·rw[List.getElem?_take_of_lt hj,Array.getElem?_toList,Array.getElem?_toList];simp[putCells,hj,show j<cur.size by omega]
 rw[List.getElem?_take_eq_none (by omega),List.getElem?_eq_none (by simp;omega)]
theorem lR [Inhabited Rw]{w:World}{age base g cap n:Nat}{e:TypeId}{os:Array Obj}{cur:Array Value}{m:Nat}{ts:List Rw}(hl:ts.length=m)(hbase:base<=g)(hb:w.heap[g]? =some (.cells cur e (0,0)))(h1:m<=cap)(h2:cap<=maxLen)(h3:cur.size=cap*6):
 (sortWorldK (cR age) 6 w g 0 n ts.toArray os).ownsRow base e 6 (s_ g 0 m cap) m (ts.flatMap (cR age)):=by
 refine⟨by rw[aR (cR age) 6 (λ_=>rfl),hl],.inr ⟨g,cap,_,rfl,hbase,qb _ hb,h1,h2,by simp[putCells,h3],?_⟩⟩;rw[<-hl,<-jG age ts,<-rn age ts];exact na cur _ (by rw[jG];omega)
def yj:Ren:=⟨fun|20=>234|n=>n,fun|22=>190|24=>193|25=>247|n=>n,fun|n=>n⟩
theorem EU:SlLaysF0.n20 prog yj:={
 mixed:=by kernel_rfl
 f20:=⟨Tryz.f234.name,by decide,func234.trans (congrArg some (by kernel_rfl))⟩
 t0:=underlying0
 a0:=Tryz.isAgg0
 z0:=Tryz.sizeOf0
 v0:=Tryz.zeroValue0
 t3:=underlying3
 a3:=Tryz.isAgg3
 z3:=Tryz.sizeOf3
 v3:=Tryz.zeroValue3
 t4:=underlying4
 a4:=Tryz.isAgg4
 z4:=Tryz.sizeOf4
 v4:=Tryz.zeroValue4
 t22:=underlying190
 a22:=Tryz.isAgg190
 z22:=Tryz.sizeOf190
 v22:=Tryz.zeroValue190
 t25:=underlying247
 a25:=Tryz.isAgg247
 z25:=Tryz.sizeOf247
 v25:=Tryz.zeroValue247}
theorem yk [Inhabited Rw](age:Nat)(ha:1<=age/\age<9)(blk off size:Nat)(w:World):CmpLays prog 156 #[] (cR age) 6 (wC age) blk off size w:=by
 intro m os dk _ x y;obtain⟨⟨⟨i,l,p,o,A⟩,v⟩,g⟩:=x;obtain⟨⟨⟨q,r,u,t,b⟩,E⟩,h⟩:=y;have B:=g.1;have C:=g.2.1;have d:=h.1;have f:=h.2.1;obtain⟨a,n,c,e⟩:=g.2.2;obtain⟨j,s,k,z⟩:=h.2.2;dsimp only at e z B C d f;subst e z;refine(ER age i l p o q r u t a n c j s k _ ha B C d f _ _ (l9 age ⟨⟨⟨i,l,p,o,A⟩,.slice a n c⟩,g⟩ ⟨⟨⟨q,r,u,t,b⟩,.slice j s k⟩,h⟩) (l9 age ⟨⟨⟨q,r,u,t,b⟩,.slice j s k⟩,h⟩ ⟨⟨⟨i,l,p,o,A⟩,.slice a n c⟩,g⟩)).mono ?_;rintro e F ⟨rfl,D,hd⟩;exact⟨rfl,ES D hd⟩
theorem ET [Inhabited Rw](age:Nat)(ha:1<=age/\age<9)(l:List Rw)(g cap base:Nat)(w:World)(hrow:w.ownsRow base 193 6 (s_ g 0 l.length cap) l.length (l.flatMap (cR age)))(hn:l.length<=16)(q0:List Pw)(hq0:q0.Perm (l.map Rw.val))(hd:q0.Pairwise λx y=>eZ x<eZ y):
 c_ 234 #[s_ g 0 l.length cap,I 0,I l.length,.func (.func 156) #[] #[]] w λe w'=>
  e=.returned (.tuple #[])/\w'.ownsRow base 193 6 (s_ g 0 l.length cap) l.length ((rkG (cw age) q0 1000).flatMap (cP age))/\w.grownBy w' (some g):=by
 rcases hrow.2 with ⟨t,_⟩|⟨S,E,cur,B,d,C,M,N,O,P⟩
 ·cases t
 cases B
 have L:=enters_of func156 (by kernel_rfl) rfl
 have q:=AnyQ.insertionSortCmpFunc EU 6 Tryz.isAgg193 Tryz.sizeOf193 (cR age) (λ_=>rfl) (λx v B=>by
  obtain⟨a,n,c,e⟩:=x.ok.2.2;simp[cR,cP,e] at B
  rcases B with rfl|rfl|rfl|rfl|rfl|rfl<;>rfl) (wC age) 156 #[] g 0 cap 0 l.length l.toArray w L (yk age ha g 0 _ w) (Cq C P) (j_.1 C).1 (k_ _) (by simp) (by simp;omega)
 have f:c_ 234 #[s_ g 0 l.length cap,I 0,I l.length,.func (.func 156) #[] #[]] w _:=q;refine f.mono ?_;have F:=Sort.insertionSort_holds (EV age) l.toArray 0 l.length (k_ _) (by simp);generalize Sort.insertionSort (ltOf (wC age)) l.toArray 0 l.length=d' at F ⊢;obtain⟨G,R⟩:=F;rintro e w' ⟨rfl,n,os,rfl⟩;have z:d'.size=l.length:=by simpa using G.1
 have H:d'=d'.toList.toArray:=by simp
 have p:d'.toList.Perm l:=by
  have h:=G.2.2;have J:d'.extract 0 l.length=d':=by rw[<-z];exact Array.extract_size
  have K:l.toArray.extract 0 l.length=l.toArray:=by
   have:l.length=l.toArray.size:=by simp
   rw[this];exact Array.extract_size
  rw[J,K] at h;exact h
 have u:(d'.toList.map Rw.val).Perm (l.map Rw.val):=p.map _
 have s:(d'.toList.map Rw.val).Pairwise λx y=>eZ x≠eZ y:=by
  have h:=hd.imp (fun {a b} (h:eZ a<eZ b)=>Nat.ne_of_lt h);exact(hq0.trans u.symm).pairwise h (fun {a b} h=>h.symm)
 have D:(d'.toList.map Rw.val).Pairwise (Bef (cw age) eZ):=by
  rw[List.pairwise_iff_getElem] at s ⊢;intro i j hi hj hij;have A:=s i j hi hj hij;rw[d_,Array.length_toList] at hi hj;have:=R i j (k_ _) hij (by omega);rw[i9,p9,getElem!_pos d' i hi,getElem!_pos d' j hj] at this;simp only[List.getElem_map,Array.getElem_toList] at A ⊢;unfold Bef at *;omega
 have o:∀x∈q0,cw age x<1000:=λx A=>by
  replace A:=hq0.mem_iff.1 A;obtain⟨y,_,rfl⟩:=q_.1 A;exact Nat.lt_of_le_of_lt (Nat.sub_le _ _) y.ok.1
 have r:=oL (λx y h h'=>h.asym h') ((u.trans hq0.symm).trans (eX o).symm) D (mA hd 1000)
 have k:d'.toList.flatMap (cR age)=(rkG (cw age) q0 1000).flatMap (cP age):=by
  rw[<-r,List.flatMap_map];rfl
 refine⟨rfl,?_,lQ _⟩;rw[<-k,H];have Q:d'.toList.length=l.length:=by rw[Array.length_toList];exact z
 exact lR (w:=w) (base:=base) (g:=g) (cap:=cap) (n:=n) (e:=193) (os:=os) (cur:=cur) (m:=l.length) (ts:=d'.toList) Q d C M N O
end
theorem DA (a:Option Addr)(c:Nat)(f:Value)(w:World):
 c_ 234 #[.slice a 0 c,I 0,I 0,f] w λe w'=>e=.returned (.tuple #[])/\w'=w:=by
 go_enter func234,ntmps234;go_wp2;refine wp_loop_rounds 1 ?_;rw[rounds_succ];go_wp2;go_end0;exact⟨rfl,rfl⟩
theorem Dz (n:Nat)(v f:Value)(Q:World->Prop)(w:World)(hv:bD v)(hn:n<=16)(h:c_ 234 #[v,I 0,I n,f] w λe w'=>e=.returned (.tuple #[])/\Q w'):
 c_ 193 #[v,I n,f] w λe w'=>e=.returned (.tuple #[])/\Q w':=by
 obtain⟨a,m,c,rfl⟩:=hv;go_enter func193,ntmps193;go_wp2;refine wp_loop_rounds 1 ?_;rw[rounds_succ];go_wp2_with fail;go_fit h;rintro e w' ⟨rfl,b⟩;go_wp2_with fail;refine wp_loop_rounds 1 ?_;rw[rounds_succ];go_wp2_with fail;go_end0;exact⟨rfl,b⟩
theorem ym (n c:Nat)(a:Option Addr)(f:Value)(Q:World->Prop)(w:World)(hn:n<=16)(h:c_ 234 #[.slice a n c,I 0,I n,f] w λe w'=>e=.returned (.tuple #[])/\Q w'):
 c_ 155 #[.slice a n c,f] w λe w'=>e=.returned (.tuple #[])/\Q w':=by
 have b:=Dz n (.slice a n c) f Q w ⟨a,n,c,rfl⟩ hn h;clear h;go_enter func155,ntmps155;go_wp2_with fail;go_fit b;rintro e w' ⟨rfl,d⟩;go_wp2_with fail;go_end0;exact⟨rfl,d⟩
variable{q:List Pw}{age:Nat}
theorem AQ (w:World):
 c_ 154 #[Zn] w λe w'=>e=.returned (Zn)/\w'=w:=by
 have a:∀W:World,(binOp .eql 190 (Zn) (Zn)).run prog W=.ok (.bool true) W:=λW=>Lib.run_eql_slice_nil W _ _ _ _ _ _ _ underlying190;go_enter func154,ntmps154;go_wp2_with fail;go_ret;exact⟨rfl,rfl⟩
theorem AN (g off cap:Nat)(w:World):
 c_ 154 #[s_ g off 0 cap] w λe w'=>(∃v',e=.returned v'/\Sl w' 193 6 v' 0 [])/\Bl w w':=by
 obtain⟨m,l,b,c,d⟩:=info_parts l8;have h:∀W:World,(binOp .eql 190 (s_ g off 0 cap) (Zn)).run prog W=.ok (.bool false) W:=λW=>Lib.run_eql_slice_nil W _ _ _ _ _ _ _ underlying190;have f:Sl (w.alloc (.cells #[] 193)) 193 6 (s_ (w.heap.size) 0 0 0) 0 []:=⟨rfl,.inr ⟨w.heap.size,0,0,#[],rfl,Bx.new w #[] 193,b_ _,by unfold maxLen;omega,by simp,λj u hu=>by simp at hu⟩⟩;have i:=hd f;clear f;go_enter func154,ntmps154;go_wp2_with (at_builtin;refine cH _ rfl _ _ 190 rfl _ m _ 6 64 underlying190 l b c d rfl (by decide) (s_ (w.heap.size) 0 0 0) 0 [] rfl i.out ⟨g,off,none⟩ 0 cap [] rfl rfl (by intro j u hu;simp at hu) (by simp) (by unfold maxLen;omega) (by omega) ?_;intro v3 w3 hs3 hg3 _);have a:Bl w w3:=(af _ _).grown hg3 (by simp) (by intro k hk;cases hk;exact b_ _);obtain⟨n,o,rfl⟩:=hs3.form;go_wp2_with fail;go_ret;exact⟨⟨_,rfl,hs3⟩,a⟩
def pmR (q:List Pw)(H:∀x∈q,x.1.lane<1000/\x.1.passed<4611686018427387904/\bD x.2):List Rw:=q.pmap (λx h=>(⟨x,h⟩:Rw)) H
theorem vr (q:List Pw)(H:∀x∈q,x.1.lane<1000/\x.1.passed<4611686018427387904/\bD x.2):(pmR q H).map Rw.val=q:=by
 rw[pmR,List.map_pmap];simp
theorem AO (q:List Pw)(H:∀x∈q,x.1.lane<1000/\x.1.passed<4611686018427387904/\bD x.2):(pmR q H).length=q.length:=by rw[pmR,List.length_pmap]
theorem yn (age:Nat)(q:List Pw)(H:∀x∈q,x.1.lane<1000/\x.1.passed<4611686018427387904/\bD x.2):(pmR q H).flatMap (cR age)=q.flatMap (cP age):=by
 conv=>rhs;rw[<-vr q H,List.flatMap_map]
 rfl
theorem AP (H:∀x∈q,x.1.lane<1000/\x.1.passed<4611686018427387904/\bD x.2):(rkG (cw age) q 1000).length=q.length:=
 (eX λx hx=>Nat.lt_of_le_of_lt (Nat.sub_le _ _) (H x hx).1).length_eq
theorem vq (age:Nat)(ha:1<=age/\age<9)(q:List Pw)(v:Value)(w:World)(hS:Sl w 193 6 v q.length (q.flatMap (cP age)))(H:∀x∈q,x.1.lane<1000/\x.1.passed<4611686018427387904/\bD x.2)(hn:q.length<=16)(q0:List Pw)(hq0:q0.Perm q)(hd:q0.Pairwise λx y=>eZ x<eZ y):
 c_ 109 #[v] w λe w'=>(∃v',e=.returned v'/\Sl w' 193 6 v' q.length ((rkG (cw age) q0 1000).flatMap (cP age))/\(0<q.length->∀g,v'.ownBlock=some g->w.heap.size<=g))/\Bl w w':=by
 by_cases hz:q=[]
 ·subst hz
  have p:c_ 154 #[v] w λe w'=>(∃v',e=.returned v'/\Sl w' 193 6 v' 0 [])/\Bl w w':=by
   rcases hS.2 with ⟨rfl,_⟩|⟨g,n,j,A,rfl,_⟩
   ·refine(AQ w).mono ?_;rintro e w' ⟨rfl,rfl⟩;exact⟨⟨_,rfl,Sl.nil _ _ _⟩,n_ _ _⟩
   exact AN g n j w
  obtain rfl:=hq0.eq_nil;have F:(rkG (cw age) ([]:List Pw) 1000).flatMap (cP age)=[]:=by simp[rkG]
  rw[F];obtain⟨L,M,rfl⟩:=hS.form;clear hS H hd F;go_enter func109,ntmps109;go_wp2_with fail;go_fit p;rintro e i ⟨⟨G,rfl,s⟩,c⟩;obtain⟨E,a,rfl⟩:=s.form;have o:=ym 0 a E (.func (.func 156) #[] #[]) (λw'=>w'=i) i (by omega) (DA E a _ i);clear p;go_wp2_with fail;go_fit o;rintro e I ⟨rfl,rfl⟩;go_wp2_with fail;go_ret;exact⟨⟨_,rfl,s,λh=>absurd h (by simp)⟩,c⟩
 have f:0<q.length:=by
  rcases q with _|_
  ·exact absurd rfl hz
  simp
 obtain⟨g,n,j,rfl,_⟩:=hS.addr f;have p:=Co q age g n j w hS (λx hx=>(H x hx).2.2) hn f;clear hS;have z:=vr q H;have t:=AO q H;have u:=yn age q H;generalize pmR q H=l at z t u;clear H;go_enter func109,ntmps109;go_wp2_with fail;go_fit p;rintro e i ⟨⟨G,rfl,d⟩,c⟩
 have o:∃b a,G=s_ b 0 q.length a/\w.heap.size<=b/\c_ 155 #[s_ b 0 q.length a,.func (.func 156) #[] #[]] i λe w'=>e=.returned (.tuple #[])/\(w'.ownsRow w.heap.size 193 6 (s_ b 0 q.length a) q.length ((rkG (cw age) q0 1000).flatMap (cP age))/\i.grownBy w' (some b)):=by
  rcases d.2 with ⟨_,K⟩|⟨b,a,A,rfl,m,_⟩
  ·omega
  rw[<-u,<-t] at d;have J:Inhabited Rw:=⟨Cp⟩;have:=ET age ha l b a w.heap.size i d (by omega) q0 (by rw[z];exact hq0) hd;rw[t] at this;exact⟨b,a,rfl,m,ym q.length a (some ⟨b,0,none⟩) _ _ i hn this⟩
 obtain⟨b,a,rfl,r,o⟩:=o;clear z t u p d;go_wp2_with fail;go_fit o;rintro e I ⟨rfl,D,C⟩;have B:Bl w I:=c.grown C c.size (by intro k hk;cases hk;exact r);clear o;go_wp2_with fail;go_ret;exact⟨⟨_,rfl,Sl.of_row D,λ_ g hg=>by cases hg;exact r⟩,B⟩
variable{c:Cfg}{L mb n0 sb yb:Nat}{S:Nat->Prop}{s:Ts}{α β:Type}{ov qv:Value}{w:World}{x:Xt}{lane:α->Nat}
theorem oY {f:α->β}:∀{m:List β} {q:List α},(q.map f).Perm m->∃q0:List α,q0.Perm q/\q0.map f=m
 |[],q,h=>by
  have:q=[]:=List.map_eq_nil_iff.1 h.eq_nil
  subst this
  exact⟨[],List.Perm.refl _,rfl⟩
 |b::m,q,h=>by
  obtain⟨x,i,e⟩:=q_.1 (h.mem_iff.2 (D_))
  obtain⟨s,t,rfl⟩:=List.append_of_mem i
  have a:(s++x::t).Perm (x::(s++t)):=List.perm_middle
  have c:((s++t).map f).Perm m:=by
   have:=(a.map f).symm.trans h;rw[C_,e] at this;exact(List.perm_cons b).1 this
  obtain⟨q0,d,g⟩:=oY c;exact⟨x::q0,(d.cons x).trans a.symm,by rw[C_,e,g]⟩
theorem ro {q:List α}(h:∀x∈q,lane x<L):∀M,rkG lane q (L+M)=rkG lane q L
 |0=>rfl
 |M+1=>by
  rw[<-J_,gF,ro h M]
  have:(q.filter λx=>lane x==L+M)=[]:=List.filter_eq_nil_iff.2 λx hx=>by
   have:=h x hx
   simp;omega
  rw[this,T_]
theorem bI.ranks (h:bI w S yb mb n0 c s q sb qv ov x)(hI:s.Inv c)(hc:c.Ok):
 ∃q0:List Pw,q0.Perm q/\q0.map Prod.fst=s.queue/\(q0.Pairwise λx y=>eZ x<eZ y)/\(rkG (cw c.age) q0 1000).map Prod.fst=s.ranked c/\(rkG (cw c.age) q0 1000).Perm q:=by
 obtain⟨q0,b,a⟩:=oY h.qs
 have d:∀y∈s.queue,mH c.age y<4:=λy hy=>by
  have e:=(hI.top y hy).2.1;have f:=hc.1.2;exact Nat.lt_of_le_of_lt (Nat.sub_le _ _) (by omega)
 refine⟨q0,b,a,?_,?_,?_⟩
 ·have:=hI.ord;rw[<-a,List.pairwise_map] at this;exact this
 ·have:=jX (mH c.age) (Prod.fst:Pw->Ch) q0 1000;rw[a] at this;rw[Ts.ranked,<-ro d 996];exact this.symm
 refine(eX λy hy=>?_).trans b;have:y.1∈s.queue:=by rw[<-a];exact x_ hy
 have:=d _ this;exact h_ this (by omega)
theorem bI.small (h:bI w S yb mb n0 c s q sb qv ov x)(hI:s.Inv c)(hc:c.Ok)(hi:s.ids.length<1048576000):
 (∀y∈q,y.1.lane<1000/\y.1.passed<4611686018427387904/\bD y.2)/\q.length<=16:=by
 refine⟨λy hy=>?_,?_⟩
 ·have a:=h.qs.mem_iff.1 (x_ hy);obtain⟨b,d,e,f⟩:=hI.top _ a;have:=hc.1.2;exact⟨by omega,by omega,h.sl y hy⟩
 rw[h.qlen];exact e_ hI.len hc.2.2.2.2.2.2.2
end
end Go.Proofs.YtgamgomepdfgdaaGreat
