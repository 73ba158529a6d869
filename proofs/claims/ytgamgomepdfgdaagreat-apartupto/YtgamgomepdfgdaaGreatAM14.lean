import Derived.Test.YtgamgomepdfgdaaGreatAM09
import Derived.Test.YtgamgomepdfgdaaGreatAM13
set_option maxRecDepth 100000
set_option maxHeartbeats 8000000
namespace Go.Proofs.YtgamgomepdfgdaaGreat
open Go.RowKit Go.Proofs.Tryz
section
variable{l:List Fl}{cap n:Nat}{w:World}
theorem qB:(prog.info? 80).map (λi=>(i.zero,i.size,i.bytes))=some (some (.agg #[.string ⟨#[]⟩,.string ⟨#[]⟩]),2,32):=by kernel_rfl
def di:ByteArray:=⟨#[98,101,121,111,110,100]⟩
theorem pp (g o n:Nat):(⟨g,o,none⟩:Addr).add n=⟨g,o+n,none⟩:=by
 unfold Addr.add;by_cases h:n=0
 ·subst h;simp
 simp[h]
theorem wY {a:Option Addr}(h:ay w (.slice a n cap) l)(hn:0<n):∃ad,a=some ad/\∀j v,(l.flatMap cF)[j]? =some v->w.cell? (ad.add j)=some v:=by
 rcases h with ⟨_,r,d,c⟩|⟨b,m,d,c,_,o,p⟩
 ·cases c;omega
 cases c
 refine⟨_,rfl,λj v hj=>?_⟩
 have q:j<l.length*2:=by
  have:=(N_.1 hj).1;rwa [aR cF 2 (λ_=>rfl)] at this
 have e:j=j/2*2+j%2:=by omega
 have k:j/2<l.length:=by omega
 have g:=aq cF 2 (λ_=>rfl) l (j/2) (j%2) k (by omega);rw[<-e,hj] at g;have f:=pp b m j;rw[f];rcases (show j%2=0\/j%2=1 by omega) with i|i
 ·rw[i] at g;have c:v=.string l[j/2].1:=by simpa[cF] using g
  have:=o (j/2) k;rw[c,<-this];congr 2;omega
 rw[i] at g;have c:v=.string l[j/2].2:=by simpa[cF] using g
 have:=p (j/2) k;rw[c,<-this];congr 2;omega
theorem zu (l:List Fl):∀v∈l.flatMap cF,v.oneCell'=true:=by
 intro v hv;obtain⟨f,_,a⟩:=List.mem_flatMap.1 hv;simp[cF] at a;rcases a with rfl|rfl<;>rfl
theorem eh (l:List Fl)(a:Option Addr)(cap:Nat)(w:World)(hl:ay w (.slice a l.length cap) l)(hn:Hid ((l.length+100)*32<=140737488355328))(hln:l.length<8796093022208):
 c_ 36 #[.slice a l.length cap] w λe w'=>(∃g,e=.returned (s_ g 0 (l.length+2) (l.length+2))/\w'.ownsRow w.heap.size 80 2 (s_ g 0 (l.length+2) (l.length+2)) (l.length+2) ((l++[((di,⟨#[]⟩):Fl),((di,⟨#[]⟩):Fl)]).flatMap cF))/\Bl w w':=by
 obtain⟨o,p,m,j,n⟩:=info_parts qB;have f:(prog.info? 80).map (·.size)=some 2:=by rw[p];simp[j]
 have r:Hid (o.bytes*(l.length+2)<=281474976710656):=by
  show o.bytes*(l.length+2)<=281474976710656;have:=hn.out;rw[n];omega
 have b:∀{w':World} {e:TypeId} {v:Value} {xs:List Value},w'.ownsRow w.heap.size e 2 v (l.length+2) xs->l.length*2+2<=xs.length:=λh=>by have:=h.1;omega
 have c:∀{w':World} {e:TypeId} {v:Value} {xs:List Value},w'.ownsRow w.heap.size e 2 v (l.length+2) xs->(l.length+1)*2+2<=xs.length:=λh=>by have:=h.1;omega
 have i:=zu l;go_enter func36,ntmps36;go_wp2_with (first|(at_make;refine wpList_make_full _ rfl _ _ _ rfl w.heap.size _ o _ 2 underlying24 p m j _ _ _ _ (l.length+2) rfl rfl (by omega) (by omega) r.out (by unfold maxLen;omega) (b_ _) ?_;intro w1 hrow1 hg1)|(refine fF _ rfl _ _ _ _ rfl 80 2 w.heap.size underlying24 f _ (l.length+2) a l.length cap rfl rfl (by omega) _ hrow1 (l.flatMap cF) (aR cF 2 (λ_=>rfl) l) (λh0=>wY (hl.grown hg1 (Classical.em _)) h0) i ?_;intro w2 hrow2 hg2)|(refine aZ _ rfl _ _ _ rfl w.heap.size _ 2 _ _ _ _ _ hrow2 rfl [.string di,.string ⟨#[]⟩] rfl f (b hrow2) (by simp[Value.oneCell']) ?_;intro w3 hrow3 hg3)|(refine aZ _ rfl _ _ _ rfl w.heap.size _ 2 _ _ _ _ _ hrow3 rfl [.string di,.string ⟨#[]⟩] rfl f (c hrow3) (by simp[Value.oneCell']) ?_;intro w4 hrow4 hg4));go_ret;refine⟨⟨_,rfl,?_⟩,?_⟩
 ·have e:=mD (cs:=[.string di,.string ⟨#[]⟩]) (k:=l.length*2) (aR cF 2 (λ_=>rfl) l) (T:=(madeCells (Value.agg #[Value.string ⟨#[]⟩,Value.string ⟨#[]⟩]).cells ((l.length+2)*2)).toList.drop (l.flatMap cF).length) (by have:=hrow1.1;rw[G_,aR cF 2 (λ_=>rfl) l,this];simp;omega);have q:(l.length+1)*2=l.length*2+2:=by omega
  rw[r_];rw[q] at hrow4;exact e▸hrow4
 have d:=hg1.size;exact((((n_ _ _).grown hg1 (b_ _) (by simp)).grown hg2 d (by simp)).grown hg3 (e_ d hg2.size) (by simp)).grown hg4 (e_ d (e_ hg2.size hg3.size)) (by simp)
theorem qA:(prog.info? 49).map (λi=>(i.zero,i.size,i.bytes))=some (some (.agg #[.string ⟨#[]⟩,.string ⟨#[]⟩,.string ⟨#[]⟩]),3,48):=by kernel_rfl
theorem po {a:Option Addr}{l:List Ed}(h:aH w (.slice a n cap) l)(hn:0<n):∃ad,a=some ad/\∀j v,(l.flatMap cE)[j]? =some v->w.cell? (ad.add j)=some v:=by
 rcases h with ⟨_,s,f,c⟩|⟨b,m,f,c,_,o,p,q⟩
 ·cases c;omega
 cases c
 refine⟨_,rfl,λj v hj=>?_⟩
 have r:j<l.length*3:=by
  have:=(N_.1 hj).1;rwa [aR cE 3 (λ_=>rfl)] at this
 have e:j=j/3*3+j%3:=by omega
 have k:j/3<l.length:=by omega
 have d:=aq cE 3 (λ_=>rfl) l (j/3) (j%3) k (by omega);rw[<-e,hj] at d;have i:=pp b m j;rw[i];rcases (show j%3=0\/j%3=1\/j%3=2 by omega) with g|g|g
 ·rw[g] at d;have c:v=.string l[j/3].1:=by simpa[cE] using d
  have:=o (j/3) k;rw[c,<-this];congr 2;omega
 ·rw[g] at d;have c:v=.string l[j/3].2.1:=by simpa[cE] using d
  have:=p (j/3) k;rw[c,<-this];congr 2;omega
 rw[g] at d;have c:v=.string l[j/3].2.2:=by simpa[cE] using d
 have:=q (j/3) k;rw[c,<-this];congr 2;omega
theorem pm (l:List Ed):∀v∈l.flatMap cE,v.oneCell'=true:=by
 intro v hv;obtain⟨f,_,a⟩:=List.mem_flatMap.1 hv;simp[cE] at a;rcases a with rfl|rfl|rfl<;>rfl
theorem pq (l:List Ed)(a:Option Addr)(cap:Nat)(w:World)(hl:aH w (.slice a l.length cap) l)(hn:Hid ((l.length+80)*48<=140737488355328))(hln:l.length<8796093022208):
 c_ 86 #[.slice a l.length cap] w λe w'=>(∃g,e=.returned (s_ g 0 (l.length+2) (l.length+2))/\w'.ownsRow w.heap.size 49 3 (s_ g 0 (l.length+2) (l.length+2)) (l.length+2) ((l++[((di,⟨#[]⟩,⟨#[]⟩):Ed),((di,⟨#[]⟩,⟨#[]⟩):Ed)]).flatMap cE))/\Bl w w':=by
 obtain⟨i0,hi,hz0,hz1,hz2⟩:=info_parts qA;have hsz:(prog.info? 49).map (·.size)=some 3:=by rw[hi];simp[hz1]
 have q2:Hid (i0.bytes*(l.length+2)<=281474976710656):=by
  show i0.bytes*(l.length+2)<=281474976710656;have:=hn.out;rw[hz2];omega
 have hfit1:∀{w':World} {e:TypeId} {v:Value} {xs:List Value},w'.ownsRow w.heap.size e 3 v (l.length+2) xs->l.length*3+3<=xs.length:=λh=>by have:=h.1;omega
 have hfit2:∀{w':World} {e:TypeId} {v:Value} {xs:List Value},w'.ownsRow w.heap.size e 3 v (l.length+2) xs->(l.length+1)*3+3<=xs.length:=λh=>by have:=h.1;omega
 have hone:=pm l;go_enter func86,ntmps86;go_wp2_with (first|(at_make;refine wpList_make_full _ rfl _ _ _ rfl w.heap.size _ i0 _ 3 underlying27 hi hz0 hz1 _ _ _ _ (l.length+2) rfl rfl (by omega) (by omega) q2.out (by unfold maxLen;omega) (b_ _) ?_;intro w1 hrow1 hg1)|(refine fF _ rfl _ _ _ _ rfl 49 3 w.heap.size underlying27 hsz _ (l.length+2) a l.length cap rfl rfl (by omega) _ hrow1 (l.flatMap cE) (aR cE 3 (λ_=>rfl) l) (λh0=>po (hl.grown hg1 (Classical.em _)) h0) hone ?_;intro w2 hrow2 hg2)|(go_at_call 89;refine(mK _).mono ?_;rintro e w' ⟨rfl,rfl⟩)|(refine aZ _ rfl _ _ _ rfl w.heap.size _ 3 _ _ _ _ _ (hrow2.alloc _) rfl [.string di,.string ⟨#[]⟩,.string ⟨#[]⟩] rfl hsz (hfit1 hrow2) (by simp[Value.oneCell']) ?_;intro w3 hrow3 hg3)|(refine aZ _ rfl _ _ _ rfl w.heap.size _ 3 _ _ _ _ _ (hrow3.alloc _) rfl [.string di,.string ⟨#[]⟩,.string ⟨#[]⟩] rfl hsz (hfit2 hrow3) (by simp[Value.oneCell']) ?_;intro w4 hrow4 hg4));go_ret;refine⟨⟨_,rfl,?_⟩,?_⟩
 ·have e:=mD (cs:=[.string di,.string ⟨#[]⟩,.string ⟨#[]⟩]) (k:=l.length*3) (aR cE 3 (λ_=>rfl) l) (T:=(madeCells (Value.agg #[Value.string ⟨#[]⟩,Value.string ⟨#[]⟩,Value.string ⟨#[]⟩]).cells ((l.length+2)*3)).toList.drop (l.flatMap cE).length) (by have:=hrow1.1;rw[G_,aR cE 3 (λ_=>rfl) l,this];simp;omega);have e2:(l.length+1)*3=l.length*3+3:=by omega
  rw[r_];rw[e2] at hrow4;exact e▸hrow4
 have hs1:=hg1.size;have hs2:=hg2.size;have hs3:=hg3.size;simp at hs3;refine Below.grown (Below.alloc (Below.grown (Below.alloc (((n_ _ _).grown hg1 (b_ _) (by simp)).grown hg2 hs1 (by simp)) (by omega) _) hg3 (by simp;omega) (by simp)) (by omega) _) hg4 (by simp;omega) (by simp)
variable{wr:World}
def xv (k:Nat):Nat->List UInt8
 |0=>[]
 |i+1=>xv k i++[UInt8.ofNat (48+k/10^i%10)]
def iE (k i:Nat):ByteArray:=⟨(xv k i).toArray⟩
def BR:ByteArray:=⟨#[109,97,114,107]⟩
def gd (k:Nat):Fl:=(iE k 8,BR)
theorem zU (w:World)(b:UInt8):(convert 114 9 (s_ (w.heap.size) 0 1 1)).run prog (w.alloc (.cells #[.int .u8 b.toNat] 5))=.ok (.string ⟨#[b]⟩) (w.alloc (.cells #[.int .u8 b.toNat] 5)):=by
 refine run_convert_bytes_back (P:=prog) _ _ _ 5 ⟨w.heap.size,0,none⟩ 1 [b] underlying114 (by kernel_rfl) (by kernel_rfl) λj hj=>?_;have:j=0:=by simpa using hj
 subst this;rw[bE];show (match (w.heap.push _)[w.heap.size]? with|some (Obj.cells c _ _)=>c[0+0]? |_=>none)=_;simp
theorem isz:(prog.info? 80).map (·.size)=some 2:=by kernel_rfl
theorem sK (k:Nat):∀i,(xv k i).length=i
 |0=>rfl
 |i+1=>by rw[xv,a_,sK k i];rfl
theorem uw (k i:Nat):(iE k i).size=i:=by show (xv k i).toArray.size=i;rw[List.size_toArray,sK]
theorem uy (k i:Nat)(b:UInt8)(h:UInt8.ofNat (48+k/10^i%10)=b):iE k i++⟨#[b]⟩=iE k (i+1):=by
 apply ByteArray.ext;show (iE k i++⟨#[b]⟩).data=(xv k i++[UInt8.ofNat (48+k/10^i%10)]).toArray;rw[ByteArray.data_append,h];simp[iE]
def lN (w:World):World:=w.alloc (.cells #[.string ⟨#[]⟩,.string ⟨#[]⟩] 80)
theorem ux (hb:Below (w.heap.size+1) (lN w) wr):wr.heap[w.heap.size]? =some (.cells #[.string ⟨#[]⟩,.string ⟨#[]⟩] 80 (0,0)):=by
 rw[hb.block w.heap.size (by omega)];show (w.heap.push _)[w.heap.size]? =_;simp
theorem sJ (hb:Below (w.heap.size+1) (lN w) wr)(cs:Array Value):Bl w (wr.setRow w.heap.size cs):=by
 have a:Bl w (lN w):=(n_ _ _).alloc (b_ _) _;have b:=a.trans (hb.mono (by omega));exact b.trans ⟨rfl,rfl,rfl,by simp[World.setRow],λk hk=>setRow_other wr w.heap.size k _ (by omega)⟩
theorem zV (k i:Nat):k/10^i%10<10:=Nat.mod_lt _ (by decide)
theorem uz (k i:Nat):k/10^i/10=k/10^(i+1):=by rw[Nat.div_div_eq_div_mul,Nat.pow_succ]
theorem jR (k:Nat)(hk:k<1099511627776)(w:World):
 c_ 54 #[I k] w λe w'=>e=.returned (.agg #[.string (gd k).1,.string (gd k).2])/\Bl w w':=by
 go_enter func54,ntmps54;go_wp2;go_loopw [0,3,4] (λkv sv iv wr=>∃i:Nat,i<=8/\iv=I i/\kv=I (k/10^i:Nat)/\sv=.string (iE k i)/\Below (w.heap.size+1) (lN w) wr) (λ_ _ i _=>8-(intOf i).toNat)
 case atStart=>exact⟨0,by omega,rfl,by simp,rfl,n_ _ _⟩
 obtain⟨i,B,rfl,rfl,rfl,n⟩:=hrel;have y:=uw k i;have p:=n.size;by_cases h8:i<8
 ·have hd:=zV k i;have q:=uz k i;have u:k/10^i<1099511627776:=Nat.lt_of_le_of_lt (Nat.div_le_self _ _) hk;have h:=uy k i;obtain⟨m,j⟩:∃m,m=k/10^(i+1):=⟨_,rfl⟩;have o:Hid (m=k/10^(i+1)):=j;rw[<-j] at q;clear j;generalize k/10^i=K at *;have c:=λb=>zU wr b;have z:(K:Int)%10=((K%10:Nat):Int):=by omega
  have A:(K:Int)/10=((m:Nat):Int):=by omega
  generalize K%10=d at *;have g:d=0\/d=1\/d=2\/d=3\/d=4\/d=5\/d=6\/d=7\/d=8\/d=9:=by omega
  have t:=c (UInt8.ofNat (48+d));have x:=h _ rfl;clear c h;rcases g with rfl|rfl|rfl|rfl|rfl|rfl|rfl|rfl|rfl|rfl
  all_goals
   simp at t x;go_wp2;exact⟨⟨i+1,by omega,by go_num,by rw[<-o.out],rfl,n.alloc (by simpa[lN] using p) _⟩,by simp[intOf];omega⟩
 obtain rfl:i=8:=by omega
 have a:=ux n;go_wp2_with (refine wpList_store_row rfl _ _ _ rfl _ #[.string (iE k 8),.string ⟨#[109,97,114,107]⟩] rfl rfl _ _ a isz rfl (by simp[Value.oneCell']) ?_);have f:=setRow_heap wr w.heap.size _ #[.string (iE k 8),.string ⟨#[109,97,114,107]⟩] _ _ a;have l:=sJ n #[.string (iE k 8),.string ⟨#[109,97,114,107]⟩];generalize wr.setRow w.heap.size #[.string (iE k 8),.string ⟨#[109,97,114,107]⟩]=wz at f l ⊢;have r:wz.cell? ⟨w.heap.size,0,none⟩=some (.string (iE k 8)):=by simp[World.cell?,f]
 have s:wz.cell? ⟨w.heap.size,1,none⟩=some (.string ⟨#[109,97,114,107]⟩):=by simp[World.cell?,f]
 exact bodyPost_ret (v:=.agg #[.string (gd k).1,.string (gd k).2]) (by simp[results,results54,go_sem,r,s,gd,BR]) rfl ⟨rfl,l⟩
variable{cs:Array Value}{xs ys:List Value}{bb j k m n' size':Nat}{K:Nat->Prop}{P:Program}{t:TypeId}{V V0 V1 l0 lv u v v':Value}{bx:Value->Array Value}{w' w0:World}
theorem nP (w:World)(t ty e:TypeId)(i:TypeInfo)(z:Value)(size bytes:Nat)(ht:P.underlying t=some (.slice e))(hi:P.info? e=some i)(hz:i.zero=some z)(hsize:i.size=size)(hby:i.bytes=bytes)(hzs:z.cells.size=size)(hsz:0<size)(v:Value)(n:Nat)(xs:List Value)(hown:Sl w e size v n xs)(a:Addr)(m c:Nat)(aQ:List Value)(hl:aQ.length=m*size)(hnews:∀j u,aQ[j]? =some u->w.cell? (a.add j)=some u)(h1:∀u∈aQ,u.oneCell'=true)(hm:0<m)(h63:n+m<=maxLen)(hbytes:(n+m)*bytes<=140737488355328):
 ∃v' w',(Builtin.append_ #[t,t] ty #[v,.slice (some a) m c]).run P w=.ok v' w'/\Sl w' e size v' (n+m) (xs++aQ)/\((∃b cap,v=.slice b n cap/\v'=.slice b (n+m) cap/\w.grownBy w' v.ownBlock)\/(w.grownBy w' none/\∃g,v'.ownBlock=some g/\w.heap.size<=g)):=by
 have y:∀(v':Value) (w':World),w'.ownsRow w.heap.size e size v' (n+m) (xs++aQ)->∃g,v'.ownBlock=some g/\w.heap.size<=g:=λv' w' r=>by
  rcases r.2 with ⟨_,H⟩|⟨A,s,x,rfl,B,_⟩
  ·omega
  exact⟨A,rfl,B⟩
 rcases hown.2 with ⟨rfl,rfl⟩|⟨g,d,cap,f,rfl,F,G,C,D,I⟩
 ·obtain rfl:xs=[]:=I_ (by simpa using hown.1);obtain⟨v',w',r,l,q,_,_⟩:=run_append_own_at (P:=P) w w.heap.size t ty e i z size bytes ht hi hz hsize hby hzs hsz (Zn) 0 [] (B_ w _ e size) a m c aQ hl hnews h1 h63 hbytes (b_ _);exact⟨v',w',r,Sl.of_row l,.inr ⟨q,y v' w' l⟩⟩
 by_cases hroom:n+m<=cap
 ·obtain⟨v',w',r,l,q,_⟩:=gr (P:=P) w t ty e i z size bytes ht hi hz hsize hby hzs hsz _ n xs hown a m c aQ hl hnews h1 h63 hbytes;subst hsize
  have o:d+n*i.size+aQ.length<=f.size:=by
   have:(n+m)*i.size<=cap*i.size:=u_ _ hroom;rw[Nat.add_mul] at this;omega
  have E:=run_firstCells_some (P:=P) w i.size m a m c aQ hl hnews;have p:=run_storeCells_at P g (d+n*i.size) e aQ 0 f w F (by simpa using o) h1;simp only[Nat.add_zero] at p
  have k:(Builtin.append_ #[t,t] ty #[s_ g d n cap,.slice (some a) m c]).run P w=.ok (s_ g d (n+m) cap) (w.setRow g (f.toList.take (d+n*i.size)++aQ++f.toList.drop (d+n*i.size+aQ.length)).toArray):=by
   simp[Builtin.append_,run_underlying ht,sizeOf,typeInfo,hi,Builtin.lenOf,hroom,E,Addr.add_lit,p]
  rw[k] at r;injection r with e1 e2;subst e1;subst e2;exact⟨_,_,k,l,.inl ⟨_,_,rfl,rfl,q⟩⟩
 obtain⟨v',w',r,l,q⟩:=run_append_arg_grows (P:=P) w t ty e i z size bytes ht hi hz hsize hby hzs hsz ⟨g,d,none⟩ n cap xs hown.1 (λj u hu=>by
  have:(⟨g,d,none⟩:Addr).add j=⟨g,d+j,none⟩:=by
   unfold Addr.add;by_cases h:j=0
   ·subst h;simp
   simp[h]
  rw[this];exact hown.cell hu) a m c aQ hl hnews (by omega) h63 hbytes
 exact⟨v',w',r,Sl.of_row l,.inr ⟨q,y v' w' l⟩⟩
theorem aG (w:World){ops:Array Oper}{rest:List Oper}{o:Oper}{a:Act}{Q:Exit->Act->World->Prop}(hgd:o.guard=none)(s x:Operand)(t:TypeId)(ho:o.op=.call {callee:=.builtin .append,args:=#[s,x],argTypes:=#[t,t]})(e:TypeId)(i:TypeInfo)(z:Value)(size bytes:Nat)(ht:P.underlying t=some (.slice e))(hi:P.info? e=some i)(hz:i.zero=some z)(hsize:i.size=size)(hby:i.bytes=bytes)(hzs:z.cells.size=size)(hsz:0<size)(v:Value)(n:Nat)(xs:List Value)(hs:a.eval s=v)(hown:Sl w e size v n xs)(ad:Addr)(m c:Nat)(aQ:List Value)(hx:a.eval x=.slice (some ad) m c)(hl:aQ.length=m*size)(hnews:∀j u,aQ[j]? =some u->w.cell? (ad.add j)=some u)(h1:∀u∈aQ,u.oneCell'=true)(hm:0<m)(h63:n+m<=maxLen)(hbytes:(n+m)*bytes<=140737488355328)(h:∀v' w',Sl w' e size v' (n+m) (xs++aQ)->((∃b cap,v=.slice b n cap/\v'=.slice b (n+m) cap/\w.grownBy w' v.ownBlock)\/(w.grownBy w' none/\∃g,v'.ownBlock=some g/\w.heap.size<=g))->wpList P ops Q rest (a.put o.dst v') w'):wpList P ops Q (o::rest) a w:=by
 refine wpList_plain hgd λK hK=>?_;obtain⟨v',w',k,d,f⟩:=nP (P:=P) w t o.type e i z size bytes ht hi hz hsize hby hzs hsz v n xs hown ad m c aQ hl hnews h1 hm h63 hbytes;unfold Oper.wp execOp;simp only[ho,resolve,invoke,builtin,Sem.run_bind,Sem.run_pure,Result.andThen_ok,List.map_toArray,C_,List.map_nil,hs,hx,k];exact hK _ _ (h v' w' d f)
abbrev En:=Value×Nat×Nat
def cN (r:En):List Value:=[r.1,I r.2.2]
def rep (m:List Value):Nat->List Value
 |0=>[]
 |n+1=>rep m n++m
theorem kB (m:List Value):∀n,(rep m n).length=n*m.length
 |0=>by simp[rep]
 |n+1=>by rw[rep,a_,kB m n,Nat.add_mul,Nat.one_mul]
theorem sI {m : List Value} {size : Nat} (hs : m.length = size) {j : Nat} : ∀ {n : Nat}, j ≤ n → (rep m n).take (j * size) = rep m j
  | 0, h => by obtain rfl : j = 0 := by omega
               simp [rep]
  | n + 1, h => by
    have hl := kB m n
    rw [hs] at hl
    by_cases hj : j = n + 1
    · subst hj
      rw [m_]
      rw [kB, hs]
      exact b_ _
    · rw [rep, List.take_append_of_le_length (by rw [hl]; exact u_ _ (by omega))]
      exact sI hs (by omega)
theorem vJ {m:List Value}{size:Nat}(hs:m.length=size){q j:Nat}(hj:j<size):∀{n:Nat},q<n->(rep m n)[q*size+j]? =m[j]?
 |0,h=>by omega
 |n+1,h=>by
  have hl:=kB m n
  rw[hs] at hl
  rw[rep]
  by_cases hq:q=n
  ·subst hq
   rw[List.getElem?_append_right (by omega),hl]
   congr 1
   omega
  rw[V_,vJ hs hj (by omega)]
  rw[hl]
  have:(q+1)*size<=n*size:=u_ _ (by omega)
  rw[Nat.add_mul] at this
  omega
structure Kd where
 o:TypeId
 e:TypeId
 size:Nat
 mrk:Nat->List Value
structure BL (w:World)(K:Nat->Prop)(d:Kd)(V:Value)(rs:List En):Prop where
 row:Sl w d.o 2 V rs.length (rs.flatMap cN)
 ents:∀r∈rs,Sl w d.e d.size r.1 r.2.1 (rep (d.mrk r.2.2) r.2.1)
 fv:∀g,V.ownBlock=some g->K g
 fe:∀r∈rs,∀g,r.1.ownBlock=some g->K g
 sm:∀r∈rs,r.2.2<1099511627776
theorem BL.nil (w:World)(K:Nat->Prop)(d:Kd):BL w K d (Zn) []:=⟨Sl.nil _ _ _,by simp,by simp[Value.ownBlock],by simp,by simp⟩
theorem BL.kept {d:Kd}{rs:List En}(h:BL w K d V rs)(hk:∀k,k<w.heap.size->K k->w'.heap[k]? =w.heap[k]?):BL w' K d V rs:=
 ⟨h.row.kept λg hg=>hk g (h.row.lt hg) (h.fv g hg),λr hr=>(h.ents r hr).kept λg hg=>hk g ((h.ents r hr).lt hg) (h.fe r hr g hg),h.fv,h.fe,h.sm⟩
theorem BL.mono {K':Nat->Prop}{d:Kd}{rs:List En}(h:BL w K d V rs)(hK:∀k,k<w.heap.size->K k->K' k):BL w K' d V rs:=
 ⟨h.row,h.ents,λg hg=>hK g (h.row.lt hg) (h.fv g hg),λr hr g hg=>hK g ((h.ents r hr).lt hg) (h.fe r hr g hg),h.sm⟩
structure St (w0 w:World)(bb:Nat)(bx:Value->Array Value)(K:Nat->Prop)(V0 l0:Value)(d:Kd)(k:Nat)(V lv:Value)(n:Nat)(rs:List En):Prop where
 box:Bx w bb 88 (bx V)
 row:Sl w d.o 2 V rs.length (rs.flatMap cN)
 ents:∀r∈rs,Sl w d.e d.size r.1 r.2.1 (rep (d.mrk r.2.2) r.2.1)
 list:Sl w d.e d.size lv n (rep (d.mrk k) n)
 head:∀r∈rs,(∃a cap,lv=.slice a n cap/\r.1=.slice a r.2.1 cap/\r.2.1<=n/\r.2.2=k)\/(∀g,r.1.ownBlock=some g->lv.ownBlock≠some g)
 only:ai w0 w (λq=>q=bb\/V0.ownBlock=some q\/l0.ownBlock=some q)
 fv:∀g,V.ownBlock=some g->V0.ownBlock=some g\/w0.heap.size<=g
 fl:∀g,lv.ownBlock=some g->l0.ownBlock=some g\/w0.heap.size<=g
 fe:∀r∈rs,∀g,r.1.ownBlock=some g->K g\/l0.ownBlock=some g\/w0.heap.size<=g
 sm:∀r∈rs,r.2.2<1099511627776
theorem St.later {d:Kd}{rs:List En}(h:St w0 w bb bx K V0 l0 d k V lv n rs)(hb:Bl w w'):St w0 w' bb bx K V0 l0 d k V lv n rs:=
 ⟨h.box.later hb,h.row.later hb,λr hr=>(h.ents r hr).later hb,h.list.later hb,h.head,h.only.trans (ai.of_below (S:=λ_=>False) hb) (λ_ h=>h.elim),h.fv,h.fl,h.fe,h.sm⟩
theorem Sl.keptT {e:TypeId}{size:Nat}(h:Sl w e size v n xs)(hu:Sl w t size' u n' ys)(het:e≠t)(hg:w.grownBy w' u.ownBlock):Sl w' e size v n xs:=
 h.grown hg λ_ hv hg'=>h.apart hu het hv hg'
def nO (w w':World)(v v':Value)(n m:Nat):Prop:=(∃b cap,v=.slice b n cap/\v'=.slice b (n+m) cap/\w.grownBy w' v.ownBlock)\/(w.grownBy w' none/\∃g,v'.ownBlock=some g/\w.heap.size<=g)
theorem nO.grown (h:nO w w' v v' n m):w.grownBy w' v.ownBlock:=by
 rcases h with ⟨_,_,_,_,h⟩|⟨h,_⟩
 ·exact h
 exact⟨h.os,h.tape,h.output,h.size,λk hk _=>h.block k hk (by simp)⟩
theorem nO.blk (h:nO w w' v v' n m){g:Nat}(hg:v'.ownBlock=some g):v.ownBlock=some g\/w.heap.size<=g:=by
 rcases h with ⟨b,a,rfl,rfl,_⟩|⟨_,e,c,d⟩
 ·exact .inl (by cases b<;>first|exact hg|(simp[Value.ownBlock] at hg))
 rw[c] at hg;cases hg;exact .inr d
theorem St.append {d:Kd}{rs:List En}(h:St w0 w bb bx K V0 l0 d k V lv n rs)(hd:d.e≠d.o/\88≠d.o)(hS:Sl w' d.o 2 V1 (rs.length+1) (rs.flatMap cN++cN (lv,n,k)))(hM:nO w w' V V1 rs.length 1):
 Bx w' bb 88 (bx V)/\Sl w' d.o 2 V1 (rs++[(lv,n,k)]).length ((rs++[(lv,n,k)]).flatMap cN)/\(∀r∈rs,Sl w' d.e d.size r.1 r.2.1 (rep (d.mrk r.2.2) r.2.1))/\Sl w' d.e d.size lv n (rep (d.mrk k) n)/\ai w0 w' (λq=>q=bb\/V0.ownBlock=some q\/l0.ownBlock=some q)/\(∀g,V1.ownBlock=some g->V0.ownBlock=some g\/w0.heap.size<=g):=by
 have b:=hM.grown;refine⟨h.box.grown b ?_,?_,λr hr=>(h.ents r hr).keptT h.row hd.1 b,h.list.keptT h.row hd.1 b,?_,λg hv=>?_⟩
 ·exact λe=>h.row.ne h.box (λe=>hd.2 e.symm) e.symm
 ·rw[a_,r_];simpa using hS
 ·refine h.only.trans (S':=λq=>V.ownBlock=some q) (ai.of_grown b λq e=>e) λq hq=>?_;rcases h.fv q hq with a|a
  ·exact .inl (.inr (.inl a))
  exact .inr a
 rcases hM.blk hv with a|a
 ·exact h.fv g a
 exact .inr (e_ h.only.size a)
theorem St.push {d:Kd}{rs:List En}(h:St w0 w bb bx K V0 l0 d k V lv n rs)(hd:d.e≠d.o/\88≠d.o)(hde:d.e≠88)(hS:Sl w' d.o 2 V1 (rs.length+1) (rs.flatMap cN++cN (lv,n,k)))(hM:nO w w' V V1 rs.length 1)(hk:k<1099511627776)(hj:(bx V).setIfInBounds j V1=bx V1):
 St w0 (w'.setCell ⟨bb,j,none⟩ V1) bb bx K V0 l0 d k V1 lv n (rs++[(lv,n,k)]):=by
 obtain⟨i,m,p,l,q,s⟩:=h.append hd hS hM;have c:∀{e:TypeId} {size n:Nat} {v:Value} {xs:List Value},e≠88->Sl w' e size v n xs->Sl (w'.setCell ⟨bb,j,none⟩ V1) e size v n xs:=λhe hs=>hs.grown (ah _ _ _ _) λg hg e'=>hs.ne i he (by rw[hg];exact e'.symm);refine⟨by rw[<-hj];exact i.set j V1,c (λe=>hd.2 e.symm) m,λr b=>?_,c hde l,λr b=>?_,q.set (.inl (.inl rfl)),s,h.fl,λr b=>?_,λr b=>?_⟩
 ·rcases E_.1 b with b|b
  ·exact c hde (p r b)
  obtain rfl:=o_.1 b;exact c hde l
 ·rcases E_.1 b with b|b
  ·exact h.head r b
  obtain rfl:=o_.1 b;obtain⟨a,f,e⟩:=h.list.form;exact .inl ⟨a,f,e,e,b_ _,rfl⟩
 ·rcases E_.1 b with b|b
  ·exact h.fe r b
  obtain rfl:=o_.1 b;exact λg hg=>.inr (h.fl g hg)
 rcases E_.1 b with b|b
 ·exact h.sm r b
 obtain rfl:=o_.1 b;exact hk
theorem St.more {d:Kd}{lv1:Value}{rs:List En}(h:St w0 w bb bx K V0 l0 d k V lv n rs)(hd:d.o≠d.e)(hde:88≠d.e)(hmk:∀k,(d.mrk k).length=d.size)(hS:Sl w' d.e d.size lv1 (n+1) (rep (d.mrk k) n++d.mrk k))(hM:nO w w' lv lv1 n 1):
 St w0 w' bb bx K V0 l0 d k V lv1 (n+1) rs:=by
 have m:=hM.grown;refine⟨h.box.grown m (λe=>h.list.ne h.box (λe=>hde e.symm) e.symm),h.row.keptT h.list hd m,λr hr=>?_,hS,λr hr=>?_,?_,h.fv,λg hv=>?_,h.fe,h.sm⟩
 ·rcases h.head r hr with ⟨a,p,s,t,v,u⟩|x
  ·rcases hM with ⟨b,j,c,l,_⟩|⟨i,_⟩
   ·rw[s] at c;obtain⟨rfl,_,rfl⟩:=Value.slice.inj c;rw[l] at hS;have y:=hS.cut (show r.2.1<=n+1 by omega);have A:rep (d.mrk k) n++d.mrk k=rep (d.mrk k) (n+1):=rfl;rw[A,sI (hmk k) (by omega)] at y;rw[t,u];exact y
   exact(h.ents r hr).grown i (by simp)
  exact(h.ents r hr).grown m λg hv e=>x g hv e
 ·rcases hM with ⟨b,j,c,l,_⟩|⟨_,g,c,z⟩
  ·rcases h.head r hr with ⟨a,p,s,t,v,u⟩|x
   ·rw[s] at c;obtain⟨rfl,_,rfl⟩:=Value.slice.inj c;exact .inl ⟨_,_,l,t,by omega,u⟩
   refine .inr λg hv e=>x g hv ?_;rw[l] at e;rw[c];cases b<;>first|exact e|(simp[Value.ownBlock] at e)
  refine .inr λg' hv e=>?_;rw[c] at e;cases e;have:=(h.ents r hr).lt hv;omega
 ·refine h.only.trans (S':=λq=>lv.ownBlock=some q) (ai.of_grown m λq e=>e) λq hq=>?_;rcases h.fl q hq with f|f
  ·exact .inl (.inr (.inr f))
  exact .inr f
 rcases hM.blk hv with f|f
 ·exact h.fl g f
 exact .inr (e_ h.only.size f)
theorem BL.start {l:Value}{d:Kd}{rs:List En}(h:BL w0 K d V rs)(hB:Bx w0 bb 88 (bx V))(hbb:K bb)(hO:ai w0 w (λq=>l.ownBlock=some q))(hl:∀g,l.ownBlock=some g->¬K g)(hS:Sl w d.e d.size l n (rep (d.mrk k) n)):
 St w0 w bb bx K V l d k V l n rs:=
 ⟨hB.kept hO λe=>hl bb e hbb,h.row.kept λg hg=>hO.block g (h.row.lt hg) λe=>hl g e (h.fv g hg),λr hr=>(h.ents r hr).kept λg hg=>hO.block g ((h.ents r hr).lt hg) λe=>hl g e (h.fe r hr g hg),hS,λr hr=>.inr λg hg e=>hl g e (h.fe r hr g hg),hO.mono λ_ hq=>.inr (.inr hq),λ_ hg=>.inl hg,λ_ hg=>.inl hg,λr hr g hg=>.inl (h.fe r hr g hg),h.sm⟩
def KL (K:Nat->Prop)(l:Value)(w w':World):Nat->Prop:=λq=>K q\/l.ownBlock=some q\/(w.heap.size<=q/\q<w'.heap.size)
theorem St.done {d:Kd}{rs:List En}(h:St w0 w bb bx K V0 l0 d k V lv n rs)(hV:∀g,V0.ownBlock=some g->K g):BL w (KL K l0 w0 w) d V rs:=
 ⟨h.row,h.ents,λg hg=>by
  rcases h.fv g hg with a|a
  ·exact .inl (hV g a)
  ·exact .inr (.inr ⟨a,h.row.lt hg⟩),λr hr g hg=>by
  rcases h.fe r hr g hg with a|a|a
  ·exact .inl a
  ·exact .inr (.inl a)
  exact .inr (.inr ⟨a,(h.ents r hr).lt hg⟩),h.sm⟩
theorem St.other {d:Kd}{rs:List En}(h:St w0 w bb bx K V0 l0 d k V lv n rs){d':Kd}{V':Value}{rs':List En}(h':BL w0 K d' V' rs')(hl:∀g,l0.ownBlock=some g->¬K g)(h0:Sl w0 d.o 2 V0 m xs)(hB:Bx w0 bb 88 cs)(hne:d'.o≠d.o/\d'.e≠d.o/\d'.o≠88/\d'.e≠88):BL w (KL K l0 w0 w) d' V' rs':=by
 refine(BL.mono (K:=K) ⟨h'.row.kept λg hg=>h.only.block g (h'.row.lt hg) ?_,λr hr=>(h'.ents r hr).kept λg hg=>h.only.block g ((h'.ents r hr).lt hg) ?_,h'.fv,h'.fe,h'.sm⟩) λ_ _ h=>.inl h
 ·rintro (e|e|e)
  ·exact h'.row.ne hB hne.2.2.1 (by rw[hg,e])
  ·exact h'.row.apart h0 hne.1 hg e
  exact hl g e (h'.fv g hg)
 rintro (e|e|e)
 ·exact(h'.ents r hr).ne hB hne.2.2.2 (by rw[hg,e])
 ·exact(h'.ents r hr).apart h0 hne.2.1 hg e
 exact hl g e (h'.fe r hr g hg)
end
section
variable{b bb m n size:Nat}{K S:Nat->Prop}{w w':World}
def dF:Kd:=⟨93,80,2,λk=>cF (gd k)⟩
def dI:Kd:=⟨95,3,1,λk=>[I (-1-(k:Int))]⟩
def dW:Kd:=⟨97,71,3,λk=>[I (-1-(k:Int)),I 0,I 0]⟩
def dT:Kd:=⟨172,110,2,λk=>[I (-1-(k:Int)),Zn]⟩
def dG:Kd:=⟨174,119,4,λk=>[Zn,I 0,.bool false,I (-1-(k:Int))]⟩
def dJ:Kd:=⟨176,124,4,λk=>[I (-1-(k:Int)),I 0,Zn,Zn]⟩
def aI (fv yv wv tv gv jv:Value):Array Value:=#[fv,yv,wv,tv,gv,jv]
structure C4 (w:World)(K:Nat->Prop)(bb:Nat)(fs yl ws ts gs js:List En)(fv yv wv tv gv jv:Value):Prop where
 box:Bx w bb 88 (aI fv yv wv tv gv jv)
 kb:K bb
 kl:∀k,K k->k<w.heap.size
 f:BL w K dF fv fs
 i:BL w K dI yv yl
 q:BL w K dW wv ws
 t:BL w K dT tv ts
 g:BL w K dG gv gs
 j:BL w K dJ jv js
def cq (w:World)(K:Nat->Prop)(bb n:Nat):Prop:=∃fs yl ws ts gs js fv yv wv tv gv jv,C4 w K bb fs yl ws ts gs js fv yv wv tv gv jv/\fs.length<=n/\yl.length<=n/\ws.length<=n/\ts.length<=n/\gs.length<=n/\js.length<=n
theorem cq.kept (h:cq w K bb n)(hs:w.heap.size<=w'.heap.size)(hk:∀k,K k->w'.heap[k]? =w.heap[k]?):cq w' K bb n:=by
 obtain⟨a,u,r,o,c,l,b,v,s,p,d,m,h,e⟩:=h;exact⟨a,u,r,o,c,l,b,v,s,p,d,m,⟨(hk bb h.kb).trans h.box,h.kb,λk hk=>h_ (h.kl k hk) hs,h.f.kept λk _ h=>hk k h,h.i.kept λk _ h=>hk k h,h.q.kept λk _ h=>hk k h,h.t.kept λk _ h=>hk k h,h.g.kept λk _ h=>hk k h,h.j.kept λk _ h=>hk k h⟩,e⟩
theorem cq.later (h:cq w K bb n)(hb:Bl w w'):cq w' K bb n:=by
 have a:∀k,K k->k<w.heap.size:=by
  obtain⟨b,p,m,j,d,g,c,q,o,l,e,i,h,f⟩:=h;exact h.kl
 exact h.kept hb.size λk hk=>hb.block k (a k hk)
theorem cq.only (h:cq w K bb n)(hO:ai w w' S)(hn:∀k,K k->¬S k):cq w' K bb n:=by
 have a:∀k,K k->k<w.heap.size:=by
  obtain⟨b,o,l,i,d,f,c,p,m,j,e,g,h,_⟩:=h;exact h.kl
 exact h.kept hO.size λk hk=>hO.block k (a k hk) (hn k hk)
def iW (w w':World)(K:Nat->Prop)(bb n:Nat)(l:Value):Prop:=∃K',cq w' K' bb (n+4)/\(∀k,K' k->K k\/l.ownBlock=some k\/w.heap.size<=k)/\ai w w' (λk=>K k\/l.ownBlock=some k)
theorem KL.lt {l:Value}(hK:∀k,K k->k<w.heap.size)(hl:∀g,l.ownBlock=some g->g<w.heap.size)(hs:w.heap.size<=w'.heap.size):∀k,KL K l w w' k->k<w'.heap.size:=λk h=>by
 rcases h with h|h|h
 ·exact h_ (hK k h) hs
 ·exact h_ (hl k h) hs
 exact h.2
theorem KL.sub {l:Value}:∀k,KL K l w w' k->K k\/l.ownBlock=some k\/w.heap.size<=k:=λk h=>by
 rcases h with h|h|h
 ·exact .inl h
 ·exact .inr (.inl h)
 exact .inr (.inr h.1)
theorem lp {i j:Nat}(h:i<8796093022208)(hj:j<3):i+j+1<=maxLen:=by unfold maxLen;omega
theorem ls {i j:Nat}(h:(i+100)*64<=140737488355328)(hj:j<3):(i+j+1)*64<=140737488355328:=e_ (u_ 64 (show i+j+1<=i+100 by omega)) h
theorem lq (hb:b<=64)(h:m*64<=140737488355328):m*b<=140737488355328:=e_ (Nat.mul_le_mul_left m hb) h
theorem fz (h:m<549755813888):m+1<=maxLen:=by unfold maxLen;omega
theorem fw (h:m<549755813888):(m+1)*32<=140737488355328:=e_ (u_ 32 (show m+1<=549755813888 by omega)) (by decide)
theorem cO (h:Bl w w'):w.grownBy w' none:=⟨h.os,h.tape,h.output,h.size,λk hk _=>h.block k hk⟩
theorem jm {m:List Value}(hs:m.length=size){i:Nat}{xs:List Value}:(rep m i++xs.drop (i*size)).take (i*size)++m++(rep m i++xs.drop (i*size)).drop (i*size+size)=rep m (i+1)++xs.drop ((i+1)*size):=by
 have a:=kB m i;rw[hs] at a;have b:(rep m i++xs.drop (i*size)).take (i*size)=rep m i:=by rw[<-a,List.take_left]
 have c:(rep m i++xs.drop (i*size)).drop (i*size+size)=(xs.drop (i*size)).drop size:=by rw[<-List.drop_drop];congr 1;exact List.drop_left' a
 have d:(i+1)*size=i*size+size:=by rw[Nat.add_mul,Nat.one_mul]
 rw[b,c,rep,List.drop_drop,d]
def L2 (w wr:World)(bb:Nat)(bx:Value->Array Value)(K:Nat->Prop)(V0 l0:Value)(d:Kd)(k n:Nat)(lv:Value)(j:Nat):Prop:=
 ∃a' cap' va' vcap' rs',lv=.slice a' (n+j) cap'/\rs'.length=k+j+1/\St w wr bb bx K V0 l0 d k (.slice va' rs'.length vcap') lv (n+j) rs'
variable{d:Kd}{V:Value}{wr:World}
theorem zW (p b:ByteArray):neF p b p b=false:=by simp[neF]
theorem uA (k:Nat)(w:World):(binOp .neq 80 (.agg #[.string (gd k).1,.string (gd k).2]) (.agg #[.string (gd k).1,.string (gd k).2])).run prog w=.ok (.bool false) w:=by
 rw[vd,zW]
theorem Bt (k:Int)(w:World):(binOp .neq 71 (.agg #[I k,I 0,I 0]) (.agg #[I k,I 0,I 0])).run prog w=.ok (.bool false) w:=by
 have d:=underlying3;have c:=Tryz.isAgg3;have e:=Tryz.sizeOf3;have a:prog.underlying 71=some (.struct (prog.fieldsOf 71)):=by kernel_rfl
 have b:prog.stoodInHeld 71=false:=by kernel_rfl
 rw[run_neq_struct,show (10000:Nat)=9999+1 from rfl,run_equalIn_agg w 9999 71 _ _ a b];simp only[Program.fieldsOf,underlying71];go_simp
theorem BL.read {rs:List En}(h:BL w K d V rs)(hb:Bl w wr){i:Nat}(hi:i<rs.length):∃g off cap,V=s_ g off rs.length cap/\g<w.heap.size/\wr.cell? ⟨g,off+i*2,none⟩=some rs[i].1/\wr.cell? ⟨g,off+i*2+1,none⟩=some (I rs[i].2.2):=by
 obtain⟨g,off,cap,rfl,_⟩:=h.row.addr (by omega);refine⟨g,off,cap,rfl,h.row.lt rfl,?_,?_⟩
 ·have:=h.row.cell (j:=i*2+0) (u:=rs[i].1) (by rw[aq cN 2 (λ_=>rfl) rs i 0 hi (by omega)];rfl);exact ae hb this
 have:=h.row.cell (j:=i*2+1) (u:=I rs[i].2.2) (by rw[aq cN 2 (λ_=>rfl) rs i 1 hi (by omega)];rfl);rw[J_];exact ae hb this
theorem BL.entry {rs:List En}(h:BL w K d V rs)(hd:∀k,(d.mrk k).length=d.size){r:En}(hr:r∈rs):∃a cap,r.1=.slice a r.2.1 cap/\r.2.1<=maxLen/\∀q,q<r.2.1->∃g off,a=some ⟨g,off,none⟩/\g<w.heap.size/\∀j u,j<d.size->(d.mrk r.2.2)[j]? =some u->w.cell? ⟨g,off+q*d.size+j,none⟩=some u:=by
 have b:=h.ents r hr;obtain⟨a,cap,e⟩:=b.form;rw[e] at b;refine⟨a,cap,e,?_,λq hq=>?_⟩
 ·rcases b.2 with ⟨_,i⟩|⟨_,_,_,_,_,_,l,m,_⟩
  ·omega
  omega
 obtain⟨g,off,c,f,_⟩:=b.addr (by omega);obtain⟨rfl,_,rfl⟩:=Value.slice.inj f;refine⟨g,off,rfl,b.lt rfl,λj u hj hu=>?_⟩;have:=b.cell (j:=q*d.size+j) (u:=u) (by rw[vJ (hd _) hj hq];exact hu);rwa [<-J_] at this
def sL (w:World)(K:Nat->Prop)(bb:Nat)(ts gs js:List En)(fv yv wv tv gv jv:Value):Prop:=Bx w bb 88 (aI fv yv wv tv gv jv)/\BL w K dT tv ts/\BL w K dG gv gs/\BL w K dJ jv js
theorem tK (Y:Nat->Prop)(xb mb n0 rb yb:Nat)(c:Cfg)(s:Ts)(L:List UInt8)(br:Bool)(keep:Int)(lv:Value)(w:World)(hU:dB w Y xb mb n0 rb yb c s L br keep lv)(ha:s.acked=s.outs.length):
 c_ 77 #[Px xb] w λe w'=>e=.returned (.tuple #[.agg #[I 0,I 0,I 0],I 5])/\Bl w w':=by
 have l:=j5 Y yb mb n0 c s (w.alloc (.cells #[I 0,I 0,I 0] 99)) (hU.yard.later (af _ _)) ha;have u:=hU.box.c 9 (Px rb);have B:=hU.run.c 0 (Px yb);have t:=hU.box.lt;have r:=hU.run.lt;clear hU;go_enter func77,ntmps77;go_wp2_with fail;go_fit l;rintro e f ⟨rfl,d⟩;have a:Bx f w.heap.size 99 #[I 0,I 0,I 0]:=(d.block _ (by simp)).trans (Bx.new w #[I 0,I 0,I 0] 99);have q:w.heap.size<f.heap.size:=a.lt;have A:∀i,f.frozen? ⟨w.heap.size,i,none⟩=false:=λi=>a.fr i;have x:=a.c 0 (I 0);have y:=a.c 1 (I 0);have z:=a.c 2 (I 0);have g:=hd a;have m:Hid (Bl w f):=(af _ _).trans (d.mono (by simp));clear d l a;go_wp2_with fail;have j:=((g.out.set 0 (I 0)).set 1 (I 0)).set 2 (I 0);simp only[P_,List.set_cons_zero,List.set_cons_succ] at j;have k:=ao (ao (ao m.out (b_ _) 0 (I 0)) (b_ _) 1 (I 0)) (b_ _) 2 (I 0);generalize ((f.setCell ⟨w.heap.size,0,none⟩ (I 0)).setCell ⟨w.heap.size,1,none⟩ (I 0)).setCell ⟨w.heap.size,2,none⟩ (I 0)=W at *;have b:=j.mk (.cells #[I 0,I 0,I 0] 99);have n:=b.c 0 (I 0);have o:=b.c 1 (I 0);have p:=b.c 2 (I 0);have h:=k.trans ((af W (.cells #[I 0,I 0,I 0] 99)).mono k.size);exact bodyPost_ret (v:=.tuple #[.agg #[I 0,I 0,I 0],I 5]) (by simp[results,results77,go_sem,n,o,p]) rfl ⟨rfl,h⟩
theorem tL (Y:Nat->Prop)(xb mb n0 rb yb:Nat)(c:Cfg)(s:Ts)(L:List UInt8)(br:Bool)(keep:Int)(lv:Value)(w:World)(hU:dB w Y xb mb n0 rb yb c s L br keep lv)(ha:s.acked<s.outs.length):
 c_ 77 #[Px xb] w λe w'=>e=.returned (.tuple #[.agg #[I ((s.acked:Int)+1),I (s.outs[s.acked]'ha).1,I (s.outs[s.acked]'ha).2],I 0])/\Bl w w':=by
 have j:=j6 Y yb mb n0 c s (w.alloc (.cells #[I 0,I 0,I 0] 99)) (hU.yard.later (af _ _)) ha;generalize s.outs[s.acked]'ha=o at j ⊢;have x:=hU.box.c 9 (Px rb);have C:=hU.run.c 0 (Px yb);have u:=hU.box.lt;have t:=hU.run.lt;clear hU;go_enter func77,ntmps77;go_wp2_with fail;go_fit j;rintro e f ⟨rfl,d⟩;have a:Bx f w.heap.size 99 #[I 0,I 0,I 0]:=(d.block _ (by simp)).trans (Bx.new w #[I 0,I 0,I 0] 99);have r:w.heap.size<f.heap.size:=a.lt;have B:∀i,f.frozen? ⟨w.heap.size,i,none⟩=false:=λi=>a.fr i;have y:=a.c 0 (I 0);have z:=a.c 1 (I 0);have A:=a.c 2 (I 0);have g:=hd a;have m:Hid (Bl w f):=(af _ _).trans (d.mono (by simp));clear d j a;go_wp2_with fail;have k:=((g.out.set 0 (I ((s.acked:Int)+1))).set 1 (I o.1)).set 2 (I o.2);simp only[P_,List.set_cons_zero,List.set_cons_succ] at k;have l:=ao (ao (ao m.out (b_ _) 0 (I ((s.acked:Int)+1))) (b_ _) 1 (I o.1)) (b_ _) 2 (I o.2);generalize ((f.setCell ⟨w.heap.size,0,none⟩ (I ((s.acked:Int)+1))).setCell ⟨w.heap.size,1,none⟩ (I o.1)).setCell ⟨w.heap.size,2,none⟩ (I o.2)=W at *;have b:=k.mk (.cells #[I ((s.acked:Int)+1),I o.1,I o.2] 99);have n:=b.c 0 (I ((s.acked:Int)+1));have p:=b.c 1 (I o.1);have q:=b.c 2 (I o.2);have h:=l.trans ((af W (.cells #[I ((s.acked:Int)+1),I o.1,I o.2] 99)).mono l.size);exact bodyPost_ret (v:=.tuple #[.agg #[I ((s.acked:Int)+1),I o.1,I o.2],I 0]) (by simp[results,results77,go_sem,n,p,q]) rfl ⟨rfl,h⟩
theorem yJ (xb:Nat)(k:Int)(R:World->Prop)(w:World)(h:c_ 73 #[Px xb,.agg #[I 3,I 0,Zn,I 0,.bool false,I 0]] w λe w'=>e=.returned (I k)/\R w'):
 c_ 30 #[Px xb] w λe w'=>e=.returned (I k)/\R w':=by
 go_enter func30,ntmps30;go_wp2_with fail;go_fit h;rintro e w' ⟨rfl,a⟩;have b:=hd a;clear a h;go_wp2_with fail;go_ret;exact⟨rfl,b.out⟩
theorem tP (xb:Nat)(num:Int)(pass:Bool)(k:Int)(R:World->Prop)(w:World)(h:c_ 73 #[Px xb,.agg #[I 4,I 0,Zn,I 0,.bool pass,I num]] w λe w'=>e=.returned (I k)/\R w'):
 c_ 44 #[Px xb,I num,.bool pass] w λe w'=>e=.returned (I k)/\R w':=by
 go_enter func44,ntmps44;go_wp2_with fail;go_fit h;rintro e w' ⟨rfl,a⟩;have b:=hd a;clear a h;go_wp2_with fail;go_ret;exact⟨rfl,b.out⟩
theorem yK (xb:Nat)(n:Int)(k:Int)(R:World->Prop)(w:World)(h:c_ 73 #[Px xb,.agg #[I 5,I 0,Zn,I 0,.bool false,I n]] w λe w'=>e=.returned (I k)/\R w'):
 c_ 46 #[Px xb,I n] w λe w'=>e=.returned (I k)/\R w':=by
 go_enter func46,ntmps46;go_wp2_with fail;go_fit h;rintro e w' ⟨rfl,a⟩;have b:=hd a;clear a h;go_wp2_with fail;go_ret;exact⟨rfl,b.out⟩
structure Started (w w':World)(xb mb n0:Nat)(g:ByteArray->ByteArray)(c:Cfg)(L:List UInt8)(lv:Value):Prop where
 up:∃Y rb yb,dB w' Y xb mb n0 rb yb c (Ts.start g) L false 0 lv/\w.heap.size<=rb/\∀k,Y k->w.heap.size<=k
 only:ai w w' (λk=>k=xb)
theorem xY (xb mb n0:Nat)(g:ByteArray->ByteArray)(c:Cfg)(L:List UInt8)(lv:Value)(up:Option Addr)(w:World)(hB:Bx w xb 135 (da c mb lv (.pointer up)))(hL:Sl w 5 1 lv L.length (bc L))(hm:aD w mb n0 g):
 c_ 75 #[Px xb] w λe w'=>e=.returned (.tuple #[])/\Started w w' xb mb n0 g c L lv:=by
 have U:=EP mb n0 g c w.drew hm;have A:=hd (hm.ty);have q:Hid (mb≠xb):=λe=>absurd (hm.ty.one (e▸hB.ty)) (by decide);clear hm;have G:=hB.c 0 (I c.lanes);have H:=hB.c 1 (I c.age);have J:=hB.c 2 (I c.batch);have K:=hB.c 3 (I c.window);have M:=hB.c 4 (I c.retries);have N:=hB.c 5 (I c.deadline);have O:=hB.c 6 (I c.queue);have P:=hB.c 7 (.map (some mb));have Q:=hB.c 9 (.pointer up);have R:=hB.fr 9;have E:=hd hB;have z:=hd hL;have y:=hB.lt;have p:∀(W:World) (v:Value) (i:Nat),i≠9->(W.setCell ⟨xb,9,none⟩ v).cell? ⟨xb,i,none⟩=W.cell? ⟨xb,i,none⟩:=λW v i hi=>H_ _ _ _ _ (by intro e;injection e with e1 e2;omega);clear hB hL;go_enter func75,ntmps75;go_wp2_with fail;go_region_held_law (λw'=>w'.cell? ⟨xb,0,none⟩=some (I c.lanes)/\w'.cell? ⟨xb,1,none⟩=some (I c.age)/\w'.cell? ⟨xb,2,none⟩=some (I c.batch)/\w'.cell? ⟨xb,3,none⟩=some (I c.window)/\w'.cell? ⟨xb,4,none⟩=some (I c.retries)/\w'.cell? ⟨xb,5,none⟩=some (I c.deadline)/\w'.cell? ⟨xb,6,none⟩=some (I c.queue)/\w'.cell? ⟨xb,7,none⟩=some (.map (some mb))) (first|go_keep|(refine⟨?_,?_,?_,?_,?_,?_,?_,?_⟩<;>(rw[p _ _ _ (by decide)];exact ae (af _ _) (by assumption)))) ((go_at_call 114;refine U.mono ?_;rintro e b ⟨⟨f,rfl,Y,n⟩,a⟩;have Z:=ae a G;have a1:=ae a H;have a2:=ae a J;have a3:=ae a K;have a4:=ae a M;have a5:=ae a N;have a6:=ae a O;have a7:=ae a P;have C:=ae a Q;have S:b.frozen? ⟨xb,9,none⟩=false:=bF a y R;have T:∀o,(b.alloc o).frozen? ⟨xb,9,none⟩=false:=(λo=>bF (af b o) (aP C) S);have F:∀o,(b.alloc o).cell? ⟨xb,9,none⟩=some (.pointer up):=(λo=>ae (af b o) C);have r:=hd n;have d:Hid (Bl w b):=⟨a.os,a.tape,a.output,a.size,a.block⟩;clear n a))
 all_goals
  go_wp2_with fail;have D:=d.out.size;have j:=(E.out.later d.out).mk (.cells (dA f false 0) 137);have s:=Bx.new b (dA f false 0) 137;have t:=r.out.later (af b (.cells (dA f false 0) 137));have l:=(z.out.later d.out).mk (.cells (dA f false 0) 137);have B:ai w (b.alloc (.cells (dA f false 0) 137)) (λk=>k=xb):=ai.of_below (d.out.trans ((af b _).mono D));have X:xb<b.heap.size:=by omega
  have x:=l.ne j (by decide);have V:(b.alloc (.cells (dA f false 0) 137)).heap.size=b.heap.size+1:=by simp
  refine be_ ⟨rfl,⟨(λk=>w.heap.size<=k/\k<b.heap.size),b.heap.size,f,⟨j.set 9 _,s.other (by omega) _ _,l.grown (ah _ _ _ _) (λg hg e=>x (by rw[hg];exact e.symm)),?_,?_,?_,?_,?_,?_⟩,D,λk p=>p.1⟩,B.set (.inl rfl)⟩
  ·refine t.kept (by simp) λk p m=>(ah _ _ _ _).block k p λe=>?_;injection e with e;rcases m with m|m
   ·have:w.heap.size<=k:=m.1;omega
   exact q.out (m.symm.trans e)
  ·exact λh=>by have:w.heap.size<=xb:=h.1;omega
  ·exact λh=>Nat.lt_irrefl _ h.2
  ·exact λg hg h=>by have h1:=z.out.lt hg;have:w.heap.size<=g:=h.1;omega
  ·exact λk h=>by have:k<b.heap.size:=h.2;simp;omega
  exact A.out.kept ((B.set (i:=9) (u:=Px b.heap.size) (.inl rfl)).block mb A.out.lt q.out)
section
open Go.Sort
theorem bU (n a b:Int)(r:Bool)(hr:r=true↔(a<=n/\n<=b))(w:World):
 c_ 126 #[I n,I a,I b] w λe w'=>e=.returned (.bool r)/\w'=w:=by
 have c:=hd hr;clear hr;by_cases h1:a<=n
 ·by_cases h2:n<=b
  ·have e:Hid (r=true):=c.out.2 ⟨h1,h2⟩;go_enter func126,ntmps126;go_wp2;go_ret;exact⟨by rw[e.out];rfl,rfl⟩
  have e:Hid (r=false):=by
   show r=false;cases r
   ·rfl
   exact absurd (c.out.1 rfl).2 h2
  go_enter func126,ntmps126;go_wp2;go_ret;exact⟨by rw[e.out];rfl,rfl⟩
 have e:Hid (r=false):=by
  show r=false;cases r
  ·rfl
  exact absurd (c.out.1 rfl).1 h1
 go_enter func126,ntmps126;go_wp2;go_ret;exact⟨by rw[e.out];rfl,rfl⟩
def jq (n0 n1 n2 n3 n4 n5 n6:Int):Prop:=(1<=n0/\n0<=4)/\(1<=n1/\n1<=8)/\(1<=n2/\n2<=8)/\(1<=n3/\n3<=4)/\(0<=n4/\n4<=3)/\(1<=n5/\n5<=100)/\(1<=n6/\n6<=16)
theorem vw (n0 n1 n2 n3 n4 n5 n6:Int)(w:World):
 c_ 84 #[.agg #[I n0,I n1,I n2,I n3,I n4,I n5,I n6]] w λe w'=>cD e (jq n0 n1 n2 n3 n4 n5 n6)/\Bl w w':=by
 have a:Hid (jq n0 n1 n2 n3 n4 n5 n6↔((1<=n0/\n0<=4)/\(1<=n1/\n1<=8)/\(1<=n2/\n2<=8)/\(1<=n3/\n3<=4)/\(0<=n4/\n4<=3)/\(1<=n5/\n5<=100)/\(1<=n6/\n6<=16))):=Iff.rfl;generalize jq n0 n1 n2 n3 n4 n5 n6=P at a ⊢;by_cases h0:(1<=n0/\n0<=4)
 ·have b:=bU n0 1 4 true ⟨λ_=>h0,λ_=>rfl⟩;by_cases h1:(1<=n1/\n1<=8)
  ·have c:=bU n1 1 8 true ⟨λ_=>h1,λ_=>rfl⟩;by_cases h2:(1<=n2/\n2<=8)
   ·have d:=bU n2 1 8 true ⟨λ_=>h2,λ_=>rfl⟩;by_cases h3:(1<=n3/\n3<=4)
    ·have f:=bU n3 1 4 true ⟨λ_=>h3,λ_=>rfl⟩;by_cases h4:(0<=n4/\n4<=3)
     ·have g:=bU n4 0 3 true ⟨λ_=>h4,λ_=>rfl⟩;by_cases h5:(1<=n5/\n5<=100)
      ·have h:=bU n5 1 100 true ⟨λ_=>h5,λ_=>rfl⟩;by_cases h6:(1<=n6/\n6<=16)
       ·have i:=bU n6 1 16 true ⟨λ_=>h6,λ_=>rfl⟩;have F:Hid P:=a.out.2 ⟨h0,h1,h2,h3,h4,h5,h6⟩;go_enter func84,ntmps84;go_wp2_with (first|(go_at_call 126;go_fit (b _);rintro e w' ⟨rfl,rfl⟩)|(go_at_call 126;go_fit (c _);rintro e w' ⟨rfl,rfl⟩)|(go_at_call 126;go_fit (d _);rintro e w' ⟨rfl,rfl⟩)|(go_at_call 126;go_fit (f _);rintro e w' ⟨rfl,rfl⟩)|(go_at_call 126;go_fit (g _);rintro e w' ⟨rfl,rfl⟩)|(go_at_call 126;go_fit (h _);rintro e w' ⟨rfl,rfl⟩)|(go_at_call 126;go_fit (i _);rintro e w' ⟨rfl,rfl⟩));go_ret;exact⟨.yes F.out,af _ _⟩
       have i:=bU n6 1 16 false ⟨λx=>Bool.noConfusion x,λx=>absurd x h6⟩;have F:Hid (¬P):=λx=>h6 (a.out.1 x).2.2.2.2.2.2;go_enter func84,ntmps84;go_wp2_with (first|(go_at_call 126;go_fit (b _);rintro e w' ⟨rfl,rfl⟩)|(go_at_call 126;go_fit (c _);rintro e w' ⟨rfl,rfl⟩)|(go_at_call 126;go_fit (d _);rintro e w' ⟨rfl,rfl⟩)|(go_at_call 126;go_fit (f _);rintro e w' ⟨rfl,rfl⟩)|(go_at_call 126;go_fit (g _);rintro e w' ⟨rfl,rfl⟩)|(go_at_call 126;go_fit (h _);rintro e w' ⟨rfl,rfl⟩)|(go_at_call 126;go_fit (i _);rintro e w' ⟨rfl,rfl⟩));go_ret;exact⟨.no F.out,af _ _⟩
      have h:=bU n5 1 100 false ⟨λx=>Bool.noConfusion x,λx=>absurd x h5⟩;have F:Hid (¬P):=λx=>h5 (a.out.1 x).2.2.2.2.2.1;go_enter func84,ntmps84;go_wp2_with (first|(go_at_call 126;go_fit (b _);rintro e w' ⟨rfl,rfl⟩)|(go_at_call 126;go_fit (c _);rintro e w' ⟨rfl,rfl⟩)|(go_at_call 126;go_fit (d _);rintro e w' ⟨rfl,rfl⟩)|(go_at_call 126;go_fit (f _);rintro e w' ⟨rfl,rfl⟩)|(go_at_call 126;go_fit (g _);rintro e w' ⟨rfl,rfl⟩)|(go_at_call 126;go_fit (h _);rintro e w' ⟨rfl,rfl⟩));go_ret;exact⟨.no F.out,af _ _⟩
     have g:=bU n4 0 3 false ⟨λx=>Bool.noConfusion x,λx=>absurd x h4⟩;have F:Hid (¬P):=λx=>h4 (a.out.1 x).2.2.2.2.1;go_enter func84,ntmps84;go_wp2_with (first|(go_at_call 126;go_fit (b _);rintro e w' ⟨rfl,rfl⟩)|(go_at_call 126;go_fit (c _);rintro e w' ⟨rfl,rfl⟩)|(go_at_call 126;go_fit (d _);rintro e w' ⟨rfl,rfl⟩)|(go_at_call 126;go_fit (f _);rintro e w' ⟨rfl,rfl⟩)|(go_at_call 126;go_fit (g _);rintro e w' ⟨rfl,rfl⟩));go_ret;exact⟨.no F.out,af _ _⟩
    have f:=bU n3 1 4 false ⟨λx=>Bool.noConfusion x,λx=>absurd x h3⟩;have F:Hid (¬P):=λx=>h3 (a.out.1 x).2.2.2.1;go_enter func84,ntmps84;go_wp2_with (first|(go_at_call 126;go_fit (b _);rintro e w' ⟨rfl,rfl⟩)|(go_at_call 126;go_fit (c _);rintro e w' ⟨rfl,rfl⟩)|(go_at_call 126;go_fit (d _);rintro e w' ⟨rfl,rfl⟩)|(go_at_call 126;go_fit (f _);rintro e w' ⟨rfl,rfl⟩));go_ret;exact⟨.no F.out,af _ _⟩
   have d:=bU n2 1 8 false ⟨λx=>Bool.noConfusion x,λx=>absurd x h2⟩;have F:Hid (¬P):=λx=>h2 (a.out.1 x).2.2.1;go_enter func84,ntmps84;go_wp2_with (first|(go_at_call 126;go_fit (b _);rintro e w' ⟨rfl,rfl⟩)|(go_at_call 126;go_fit (c _);rintro e w' ⟨rfl,rfl⟩)|(go_at_call 126;go_fit (d _);rintro e w' ⟨rfl,rfl⟩));go_ret;exact⟨.no F.out,af _ _⟩
  have c:=bU n1 1 8 false ⟨λx=>Bool.noConfusion x,λx=>absurd x h1⟩;have F:Hid (¬P):=λx=>h1 (a.out.1 x).2.1;go_enter func84,ntmps84;go_wp2_with (first|(go_at_call 126;go_fit (b _);rintro e w' ⟨rfl,rfl⟩)|(go_at_call 126;go_fit (c _);rintro e w' ⟨rfl,rfl⟩));go_ret;exact⟨.no F.out,af _ _⟩
 have b:=bU n0 1 4 false ⟨λx=>Bool.noConfusion x,λx=>absurd x h0⟩;have F:Hid (¬P):=λx=>h0 (a.out.1 x).1;go_enter func84,ntmps84;go_wp2_with (first|(go_at_call 126;go_fit (b _);rintro e w' ⟨rfl,rfl⟩));go_ret;exact⟨.no F.out,af _ _⟩
end
section
open Go.Maps
theorem DM (yb mb n:Nat)(g:ByteArray->ByteArray)(cs:Array Value)(w:World)(hB:Bx w yb 201 cs)(h7:cs[7]? =some (.map (some mb)))(hM:aD w mb n g)(hn:n*32<=140737488355328):
 c_ 101 #[Px yb] w λe w'=>Cr e w w' g n/\Bl w w':=by
 obtain⟨D,c,d⟩:=hM;have f:=rB mb n D g w c d hn;have p:=hB.cell h7;clear hB c d;go_enter func101,ntmps101;go_wp2_with fail;go_fit f;rintro e o ⟨⟨l,b,a,rfl,h,i,j⟩,m⟩;have k:Hid (Cr (.returned (s_ b 0 l.length a)) w o g n):=⟨l,b,a,rfl,h,i,j⟩;clear h i j f;go_wp2_with fail;go_ret;exact⟨k.out,m⟩
theorem yI (Y:Nat->Prop)(xb mb n0 rb yb:Nat)(c:Cfg)(s:Ts)(L:List UInt8)(br:Bool)(keep:Int)(lv:Value)(w:World)(hU:dB w Y xb mb n0 rb yb c s L br keep lv)(hn:(n0+4*s.outs.length)*32<=140737488355328):
 c_ 64 #[Px xb] w λe w'=>(∃(l:List Fl) (b cap:Nat),e=.returned (.tuple #[s_ b 0 l.length cap,I 0])/\fE l s.tip/\l.length<=n0+4*s.outs.length/\w'.ownsRow w.heap.size 80 2 (s_ b 0 l.length cap) l.length (l.flatMap cF))/\Bl w w':=by
 obtain⟨q,A,y,x,u,o,r⟩:=hU.yard;obtain⟨B,C,p⟩:=o.rest;have h:=DM yb u.tip (n0+4*s.outs.length) s.tip _ w o.box rfl (p.map.more r) hn;generalize n0+4*s.outs.length=n at *;generalize s.tip=g at h ⊢;have v:=hU.box.c 9 (Px rb);have z:=hU.run.c 0 (Px yb);clear hU o p r hn
 have a:c_ 100 #[Px xb,.func (.func 101) #[] #[]] w λe w'=>(∃(l:List Fl) (b cap:Nat),e=.returned (.tuple #[s_ b 0 l.length cap,I 0])/\fE l g/\l.length<=n/\w'.ownsRow w.heap.size 80 2 (s_ b 0 l.length cap) l.length (l.flatMap cF))/\Bl w w':=by
  go_enter func100,ntmps100;go_wp2_with fail;go_fit h;rintro e t ⟨⟨l,b,cap,rfl,d,k,f⟩,m⟩;have i:=hd d;have j:=hd f;clear d f h;go_wp2_with fail;refine bodyPost_ret (by simp[results,results100,go_sem];rfl) rfl ⟨⟨l,b,cap,by rfl,i.out,k,j.out⟩,m⟩
 clear h;go_enter func64,ntmps64;go_wp2_with fail;go_fit a;rintro e t ⟨⟨l,b,cap,rfl,d,k,f⟩,m⟩;have i:=hd d;have j:=hd f;clear d f a;go_wp2_with fail;refine bodyPost_ret (by simp[results,results64,go_sem];rfl) rfl ⟨⟨l,b,cap,by rfl,i.out,k,j.out⟩,m⟩
end
section
open Go.Maps
theorem rD (n0 n1 n2 n3 n4 n5 n6:Int)(fa:Option Addr)(fn fc:Nat)(w:World)(hno:¬jq n0 n1 n2 n3 n4 n5 n6):
 c_ 37 #[.agg #[I n0,I n1,I n2,I n3,I n4,I n5,I n6],.slice fa fn fc] w λe w'=>e=.returned (.tuple #[.pointer none,I 1])/\Bl w w':=by
 have b:=vw n0 n1 n2 n3 n4 n5 n6 (w.alloc (.cells #[I n0,I n1,I n2,I n3,I n4,I n5,I n6] 23));have c:=hd hno;clear hno;generalize jq n0 n1 n2 n3 n4 n5 n6=p at b c;go_enter func37,ntmps37;go_wp2_with fail;go_fit b;rintro e g ⟨⟨t,rfl,d⟩,a⟩
 obtain rfl:t=false:=by
  cases t
  ·rfl
  exact absurd (d.1 rfl) c.out
 have f:=hd ((af _ _).trans (a.mono (by simp)));clear d a b;go_wp2_with fail;refine bodyPost_ret (v:=.tuple #[.pointer none,I 1]) (by simp[results,results37,go_sem]) rfl ⟨rfl,f.out⟩
structure E4 (w w':World)(xb:Nat)(c:Cfg)(l:List Fl):Prop where
 up:∃Y mb rb yb,dB w' Y xb mb l.length rb yb c (Ts.start (aF l)) [] false 0 (Zn)/\aD w' mb l.length (aF l)/\w.heap.size<=mb/\w.heap.size<=rb/\¬Y mb/\mb≠xb/\mb≠rb/\∀k,Y k->w.heap.size<=k
 new:w.heap.size<=xb
theorem DN (c:Cfg)(l:List Fl)(fa:Option Addr)(fn fc:Nat)(w:World)(hc:jq c.lanes c.age c.batch c.window c.retries c.deadline c.queue)(hl:ay w (.slice fa fn fc) l)(hn:l.length<8796093022208)(hsz:∀f∈l,f.1.size<=maxLen):
 c_ 37 #[.agg #[I c.lanes,I c.age,I c.batch,I c.window,I c.retries,I c.deadline,I c.queue],.slice fa fn fc] w λe w'=>((cB dy Prod.fst l/\∃xb,e=.returned (.tuple #[Px xb,I 0])/\E4 w w' xb c l)\/(¬cB dy Prod.fst l/\e=.returned (.tuple #[.pointer none,I 2])))/\Bl w w':=by
 have H:=vw c.lanes c.age c.batch c.window c.retries c.deadline c.queue (w.alloc (.cells #[I c.lanes,I c.age,I c.batch,I c.window,I c.retries,I c.deadline,I c.queue] 23));have O:=hd hc;have R:=hd hl;clear hc hl;generalize jq c.lanes c.age c.batch c.window c.retries c.deadline c.queue=p at H O;go_enter func37,ntmps37;go_wp2_with fail;go_fit H;rintro e m ⟨⟨t,rfl,Q⟩,u⟩;obtain rfl:t=true:=Q.2 O.out;have P:Bx m w.heap.size 23 #[I c.lanes,I c.age,I c.batch,I c.window,I c.retries,I c.deadline,I c.queue]:=(u.block _ (by simp)).trans (Bx.new w _ _);have A:=hd P;have x:Hid (Bl w m):=(af _ _).trans (u.mono (by simp));have r:=yx l (.slice fa fn fc) m (ay.later R.out x.out) hn hsz;clear Q u H P;go_wp2_with fail;go_fit r;rintro e d ⟨F,g⟩;rcases F with ⟨rfl,C,D,b,J⟩|⟨rfl,C⟩
 ·have E:m.heap.size<d.heap.size:=b.lt;have a:=A.out.later g;have x0:=a.c 0 (I c.lanes);have x1:=a.c 1 (I c.age);have x2:=a.c 2 (I c.batch);have x3:=a.c 3 (I c.window);have x4:=a.c 4 (I c.retries);have x5:=a.c 5 (I c.deadline);have x6:=a.c 6 (I c.queue);have s:=xY d.heap.size m.heap.size l.length (aF l) c [] (Zn) none (d.alloc (.cells (da c m.heap.size (Zn) (.pointer none)) 135)) (Bx.new _ _ _) (Sl.nil _ _ _) (aD.same (w:=d) ⟨D,b,J⟩ ((af d _).block _ E));have G:=hd C;have S:Hid (aD d m.heap.size l.length (aF l)):=⟨D,b,J⟩;have n:Hid (Bl w d):=x.out.trans (g.mono x.out.size);have N:=x.out.size;clear g r C b J a A;unfold da at s;go_wp2_with fail;go_fit s;rintro e w4 ⟨rfl,B⟩;have z:Hid _:=B;clear B s x0 x1 x2 x3 x4 x5 x6;go_wp2_with fail;obtain⟨Y,Z,yb,K,M,L⟩:=z.out.up;have y:=z.out.only;have i:∀o,(d.alloc o).heap.size=d.heap.size+1:=λo=>by simp
  rw[i] at M;have j:∀k,Y k->d.heap.size+1<=k:=λk hk=>by have:=L k hk;rwa [i] at this
  refine bodyPost_ret (v:=.tuple #[Px d.heap.size,I 0]) (by simp[results,results37,go_sem]) rfl ⟨.inl ⟨G.out,d.heap.size,rfl,⟨⟨Y,m.heap.size,Z,yb,K,?_,N,by omega,λh=>by have:=j _ h;omega,by omega,by omega,λk hk=>by have:=j k hk;omega⟩,by omega⟩⟩,?_⟩
  ·obtain⟨D,U,V⟩:=S.out;obtain⟨T,q,W,X⟩:=U;exact⟨D,⟨T,q,(y.block _ (by rw[i];omega) (by omega)).trans ((Below.heap_alloc _ _ _ E).trans W),X⟩,V⟩
  refine n.out.trans ⟨y.os,y.tape,y.output,by have:=y.size;rw[i] at this;omega,λk hk=>?_⟩;rw[y.block k (by rw[i];omega) (by omega),Below.heap_alloc _ _ _ (by omega)]
 have G:=hd C;have n:Hid (Bl w d):=x.out.trans (g.mono x.out.size);clear g r C;go_wp2_with fail;exact bodyPost_ret (v:=.tuple #[.pointer none,I 2]) (by simp[results,results37,go_sem]) rfl ⟨.inr ⟨G.out,rfl⟩,n.out⟩
end
theorem tN (xb mb:Nat)(c:Cfg)(L:List UInt8)(lv:Value)(w:World)(hD:dH w xb mb c L lv):
 c_ 64 #[Px xb] w λe w'=>e=.returned (.tuple #[Zn,I 8])/\w'=w:=by
 have b:=hD.box.c 9 (.pointer none);clear hD
 have a:c_ 100 #[Px xb,.func (.func 101) #[] #[]] w λe w'=>e=.returned (.tuple #[Zn,I 8])/\w'=w:=by
  go_enter func100,ntmps100;go_wp2_with fail;exact bodyPost_ret (v:=.tuple #[Zn,I 8]) (by simp[results,results100,go_sem]) rfl ⟨rfl,rfl⟩
 go_enter func64,ntmps64;go_wp2_with fail;go_fit a;rintro e d ⟨rfl,rfl⟩;go_wp2_with fail;exact bodyPost_ret (v:=.tuple #[Zn,I 8]) (by simp[results,results64,go_sem]) rfl ⟨rfl,rfl⟩
theorem tO (xb mb:Nat)(c:Cfg)(L:List UInt8)(lv:Value)(w:World)(hD:dH w xb mb c L lv):
 c_ 66 #[Px xb] w λe w'=>e=.returned (.tuple #[Zn,I 8])/\w'=w:=by
 have b:=hD.box.c 9 (.pointer none);clear hD
 have a:c_ 103 #[Px xb,.func (.func 104) #[] #[]] w λe w'=>e=.returned (.tuple #[Zn,I 8])/\w'=w:=by
  go_enter func103,ntmps103;go_wp2_with fail;exact bodyPost_ret (v:=.tuple #[Zn,I 8]) (by simp[results,results103,go_sem]) rfl ⟨rfl,rfl⟩
 go_enter func66,ntmps66;go_wp2_with fail;go_fit a;rintro e d ⟨rfl,rfl⟩;go_wp2_with fail;exact bodyPost_ret (v:=.tuple #[Zn,I 8]) (by simp[results,results66,go_sem]) rfl ⟨rfl,rfl⟩
theorem rF (xb mb:Nat)(c:Cfg)(L:List UInt8)(lv:Value)(w:World)(hD:dH w xb mb c L lv):
 c_ 27 #[Px xb] w λe w'=>e=.returned (.tuple #[Zn,I 8])/\w'=w:=by
 have b:=hD.box.c 9 (.pointer none);clear hD
 have a:c_ 71 #[Px xb,.func (.func 72) #[] #[]] w λe w'=>e=.returned (.tuple #[Zn,I 8])/\w'=w:=by
  go_enter func71,ntmps71;go_wp2_with fail;exact bodyPost_ret (v:=.tuple #[Zn,I 8]) (by simp[results,results71,go_sem]) rfl ⟨rfl,rfl⟩
 go_enter func27,ntmps27;go_wp2_with fail;go_fit a;rintro e d ⟨rfl,rfl⟩;go_wp2_with fail;exact bodyPost_ret (v:=.tuple #[Zn,I 8]) (by simp[results,results27,go_sem]) rfl ⟨rfl,rfl⟩
theorem rE (xb mb:Nat)(c:Cfg)(L:List UInt8)(lv:Value)(w:World)(hD:dH w xb mb c L lv):
 c_ 69 #[Px xb] w λe w'=>e=.returned (.tuple #[Zn,I 8])/\w'=w:=by
 have b:=hD.box.c 9 (.pointer none);clear hD
 have a:c_ 105 #[Px xb,.func (.func 106) #[] #[]] w λe w'=>e=.returned (.tuple #[Zn,I 8])/\w'=w:=by
  go_enter func105,ntmps105;go_wp2_with fail;exact bodyPost_ret (v:=.tuple #[Zn,I 8]) (by simp[results,results105,go_sem]) rfl ⟨rfl,rfl⟩
 go_enter func69,ntmps69;go_wp2_with fail;go_fit a;rintro e d ⟨rfl,rfl⟩;go_wp2_with fail;exact bodyPost_ret (v:=.tuple #[Zn,I 8]) (by simp[results,results69,go_sem]) rfl ⟨rfl,rfl⟩
theorem tM (xb mb:Nat)(c:Cfg)(L:List UInt8)(lv:Value)(w:World)(hD:dH w xb mb c L lv):
 c_ 70 #[Px xb] w λe w'=>e=.returned (.tuple #[Zn,I 8])/\w'=w:=by
 have b:=hD.box.c 9 (.pointer none);clear hD
 have a:c_ 107 #[Px xb,.func (.func 108) #[] #[]] w λe w'=>e=.returned (.tuple #[Zn,I 8])/\w'=w:=by
  go_enter func107,ntmps107;go_wp2_with fail;exact bodyPost_ret (v:=.tuple #[Zn,I 8]) (by simp[results,results107,go_sem]) rfl ⟨rfl,rfl⟩
 go_enter func70,ntmps70;go_wp2_with fail;go_fit a;rintro e d ⟨rfl,rfl⟩;go_wp2_with fail;exact bodyPost_ret (v:=.tuple #[Zn,I 8]) (by simp[results,results70,go_sem]) rfl ⟨rfl,rfl⟩
theorem rG:(prog.info? 71).map (λi=>(i.zero,i.size,i.bytes))=some (some (.agg #[I 0,I 0,I 0]),3,24):=by kernel_rfl
abbrev Tw:=Nat×Nat×Nat
def cT (x:Tw):List Value:=[I x.1,I x.2.1,I x.2.2]
def tOf (x:Pw):Tw:=(x.1.id,x.1.lane,x.1.passed)
theorem Cx (age:Nat)(ha:1<=age/\age<9)(yb:Nat)(q:List Pw)(v:Value)(cs:Array Value)(w:World)(hB:Bx w yb 201 cs)(h9:cs[9]? =some v)(hS:Sl w 193 6 v q.length (q.flatMap (cP age)))(H:∀x∈q,x.1.lane<1000/\x.1.passed<4611686018427387904/\bD x.2)(hn:q.length<=16)(q0:List Pw)(hq0:q0.Perm q)(hd:q0.Pairwise λx y=>eZ x<eZ y):
 Calls prog 72 #[Px yb] w λe w'=>(∃v',e=.returned v'/\w'.ownsRow w.heap.size 71 3 v' q.length (((rkG (cw age) q0 1000).map tOf).flatMap cT))/\Bl w w':=by
 obtain⟨S,Q,B,C,D⟩:=info_parts rG;have E:=vq age ha q v w hS H hn q0 hq0 hd;have M:=hB.cell h9;have s:∀x∈q0,x.1.lane<1000/\x.1.passed<4611686018427387904/\bD x.2:=λx hx=>H x (hq0.mem_iff.1 hx);have R:=(AP (age:=age) s).trans hq0.length_eq;have A:Hid (∀x∈rkG (cw age) q0 1000,bD x.2):=λx hx=>(s x ((eX λx hx=>Nat.lt_of_le_of_lt (Nat.sub_le _ _) (s x hx).1).mem_iff.1 hx)).2.2;obtain⟨va,vc,rfl⟩:=hS.form;clear hB hS H s hd hq0 h9;generalize rkG (cw age) q0 1000=r at *;go_enter func72,ntmps72;go_wp2_with fail;go_fit E;rintro e h ⟨⟨v1,rfl,b,_⟩,n⟩;obtain⟨Y,c1,rfl⟩:=b.form;clear E;go_wp2_with fail;have m:=hd b;have l:=hd n;clear b n M;go_loopw [3,12] (λlv iv wr=>∃k:Nat,k<=q.length/\iv=I k/\Hid (wr.ownsRow h.heap.size 71 3 lv k (((r.take k).map tOf).flatMap cT))/\Hid (Bl h wr)) (λ_ i _=>q.length-(intOf i).toNat)
 case atStart=>exact⟨0,k_ _,rfl,B_ _ _ _ _,n_ _ _⟩
 obtain⟨k,hk,rfl,t,f⟩:=hrel;by_cases hlk:k<q.length
 ·have a:k<r.length:=by omega
  obtain⟨g,d,z,G,_⟩:=m.out.addr (by omega);have hS:Hid (Sl h 193 6 (.slice (some ⟨g,d,none⟩) q.length z) q.length (r.flatMap (cP age))):=by have:=m.out;rw[G] at this;exact this
  injection G with hva _ hvc;subst hva hvc
  have c:∀j (u:Value),j<6->(cP age r[k])[j]? =some u->wr.cell? ⟨g,d+k*6+j,none⟩=some u:=λj u hj hu=>by
   have:=hS.out.cell (j:=k*6+j) (u:=u) (by rw[aq (cP age) 6 (λ_=>rfl) r k j a hj];exact hu);rw[J_];exact ae f.out this
  obtain⟨N,P,O,F⟩:=A.out _ (i_ a);have d0:wr.cell? ⟨g,d+k*6,none⟩=some (I r[k].1.id):=c 0 _ (by decide) rfl;have d1:=c 1 (I r[k].1.lane) (by decide) rfl;have d2:=c 2 (I r[k].1.passed) (by decide) rfl;have d3:=c 3 (I age) (by decide) rfl;have d4:=c 4 (I r[k].1.ord) (by decide) rfl;have d5:=c 5 (.slice N P O) (by decide) (by rw[<-F];rfl)
  have L:Hid (((r.take (k+1)).map tOf).flatMap cT=((r.take k).map tOf).flatMap cT++[I r[k].1.id,I r[k].1.lane,I r[k].1.passed]):=by
   show _=_;rw[g_ a,w_,r_];simp[cT,tOf]
  generalize r[k].1.id=V at *;generalize r[k].1.lane=W at *;generalize r[k].1.passed=X at *;generalize r[k].1.ord=x4 at *;clear F c;have T:Hid (k+1<=maxLen):=by show _<=_;unfold maxLen;omega
  have U:Hid ((k+1)*24<=140737488355328):=by show _<=_;omega
  have J:Hid (∀o o',h.heap.size<=((wr.alloc o).alloc o').heap.size):=λo o'=>by
   have:=f.out.size;show h.heap.size<=_;simp;omega
  go_wp2_with (at_builtin;refine wpList_append_own_at _ rfl (.tmp 16) (.tmp 19) _ rfl h.heap.size _ S _ 3 24 underlying61 Q B C D rfl (by decide) u3 _ _ rfl (p_ (p_ t.out _) _) ⟨wr.heap.size+1,0,none⟩ 1 1 [I V,I W,I X] rfl rfl (jH wr _ _ _) (by simp[Value.oneCell']) T.out U.out (J.out _ _) ?_;intro v3 w3 hown3 hg3 hnil3 hloc3);refine⟨⟨k+1,hlk,by go_num,?_,?_⟩,by simp[intOf];omega⟩
  ·show w3.ownsRow _ _ _ _ _ _;rw[L.out];exact hown3
  exact((f.out.alloc f.out.size _).alloc (q3' f.out _) _).grown hg3 (J.out _ _) (λj hj=>(f_ t.out j hj).1)
 obtain rfl:k=q.length:=by omega
 have p:Hid (wr.ownsRow w.heap.size 71 3 u3 q.length ((r.map tOf).flatMap cT)):=by
  have:=cp t.out (base':=w.heap.size) l.out.size;rwa [m_ (by omega)] at this
 have K:Hid (Bl w wr):=aj l.out f.out;obtain⟨Z,c4,rfl⟩:=ag p.out;clear t;go_wp2_with fail;go_ret;exact⟨⟨_,rfl,p.out⟩,K.out⟩
variable{age:Nat}
def tC (x:Ch):Tw:=(x.id,x.lane,x.passed)
def iC (age:Nat)(q:List Ch):List Tw:=(rkG (mH age) q 4).map tC
theorem kV {q:List Ch}(hl:∀x∈q,x.lane<4):(iC age q).length=q.length:=by
 rw[iC,d_];exact(eX λx hx=>Nat.lt_of_le_of_lt (Nat.sub_le _ _) (hl x hx)).length_eq
def o8 (w w':World)(e:Ending)(age:Nat)(q:List Ch):Prop:=∃v',e=.returned (.tuple #[v',I 0])/\w'.ownsRow w.heap.size 71 3 v' (iC age q).length ((iC age q).flatMap cT)
theorem wJ (Y:Nat->Prop)(xb mb n0 rb yb:Nat)(c:Cfg)(s:Ts)(L:List UInt8)(br:Bool)(keep:Int)(lv:Value)(w:World)(hU:dB w Y xb mb n0 rb yb c s L br keep lv)(hI:s.Inv c)(hc:c.Ok)(hi:s.ids.length<1048576000):
 c_ 27 #[Px xb] w λe w'=>o8 w w' e c.age s.queue/\Bl w w':=by
 obtain⟨q,E,y,C,F,d,m⟩:=hU.yard;obtain⟨r,p,k,hd,g,l⟩:=d.ranks hI hc;obtain⟨H,o⟩:=d.small hI hc hi;have h:=Cx c.age ⟨hc.2.1.1,by have:=hc.2.1.2;omega⟩ yb q y _ w d.box rfl d.que.row H o r p hd;have f:∀x∈s.queue,x.lane<4:=λx m=>by have:=(hI.top x m).2.1;have:=hc.1.2;omega
 have n:(rkG (cw c.age) r 1000).map tOf=iC c.age s.queue:=by
  have:iC c.age s.queue=(s.ranked c).map tC:=rfl;rw[this,<-g,y_];rfl
 rw[n,d.qlen,<-kV (age:=c.age) f] at h;have B:=hU.box.c 9 (Px rb);have D:=hU.run.c 0 (Px yb);clear hU d hI f n g l k hd p H o m;unfold o8;generalize iC c.age s.queue=t at *
 have a:c_ 71 #[Px xb,.func (.func 72) #[] #[]] w λe w'=>(∃v',e=.returned (.tuple #[v',I 0])/\w'.ownsRow w.heap.size 71 3 v' t.length (t.flatMap cT))/\Bl w w':=by
  go_enter func71,ntmps71;go_wp2_with fail;go_fit h;rintro e A ⟨⟨z,rfl,b⟩,j⟩;obtain⟨u,v,rfl⟩:=ag b;have i:=hd b;clear b h;go_wp2_with fail;refine bodyPost_ret (by simp[results,results71,go_sem];rfl) rfl ⟨⟨_,by rfl,i.out⟩,j⟩
 clear h;go_enter func27,ntmps27;go_wp2_with fail;go_fit a;rintro e A ⟨⟨z,rfl,b⟩,j⟩;obtain⟨u,v,rfl⟩:=ag b;have i:=hd b;clear b a;go_wp2_with fail;refine bodyPost_ret (by simp[results,results27,go_sem];rfl) rfl ⟨⟨_,by rfl,i.out⟩,j⟩
end
end Go.Proofs.YtgamgomepdfgdaaGreat
