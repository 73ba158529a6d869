import Derived.RangeFuncCalls
import Derived.OrdersIn
import Derived.Deep.Quiet
import Derived.Shelf.SlMaps.Clone
import Derived.RangeFuncNested
import Derived.RangeFuncWrites
import Derived.RangeFuncBound
import Derived.RangeFuncLeaves
import Derived.Shelf.Abstract
import Derived.Shelf.RegionOpen
import Derived.OwnWalkIn
import Derived.TacticsInMore
import Derived.LoopNIn
import Derived.LoopIn
import Derived.Sort.CutIn
import Derived.Test.YtgamgomepdfgdaaGreatAM12
set_option maxRecDepth 100000
set_option maxHeartbeats 8000000
namespace Go.Proofs.YtgamgomepdfgdaaGreat
open Go.RowKit Go.Proofs.Tryz
section
variable{a:Act}{K':Act->World->Prop}{listed:Array Bool}{ops:Array Oper}{Q':Exit->Act->World->Prop}{L:Nat}{st:Oper}{P:Program}{md:Region.Mode}{w:World}
theorem mW {Q:Exit->Act->World->Prop}(hq:∀e a w,e≠.normal->Q e a w->Q' e a w)(h:LetsOut Q):LetsOut Q':=by
 obtain⟨a,w,h⟩:=h;exact⟨a,w,hq _ _ _ (by simp) h⟩
theorem vl {o:Oper}{K:Act->World->Prop}{Q:Exit->Act->World->Prop}(h:∀a w,K a w->K' a w)(hq:∀e a w,e≠.normal->Q e a w->Q' e a w)(hh:o.wp P a w K Q):o.wp P a w K' Q':=by
 unfold Oper.wp at *;generalize (execOp a.eval o).run P w=r at *;cases r with
 |ok n w'=>
  cases n<;>simp only[Oper.upon] at hh ⊢<;>
   first
    |exact h _ _ hh
    |exact hq _ _ _ (by simp) hh
    |exact Calls.mono hh (λe w'' he=>by cases e<;>first|exact h _ _ he|exact hq _ _ _ (by simp) he|exact mW hq he|exact he)
    |exact Rows.mono hh (λ_ _ he=>h _ _ he)
    |exact hh
 |halt x w'=>cases x<;>simp only[Oper.upon] at hh ⊢<;>first|exact hh|exact hq _ _ _ (by simp) hh|exact mW hq hh
def nop (st:Oper):Oper:={st with op:=.move (.const (.bool true)),dst:=none}
theorem Cm {K:Act->World->Prop}{Q:Exit->Act->World->Prop}(h:(nop st).wp P a w K Q):K a w:=by
 unfold Oper.wp at h;simpa[nop,execOp,Oper.upon,Act.put,Act.eval] using h
def kQ (P:Program)(st:Oper)(Q:Exit->Act->World->Prop):Exit->Act->World->Prop
 |.normal,a,w=>st.wp P a w (λa' w'=>Q .normal a' w') Q
 |e,a,w=>Q e a w
theorem kQ.other {Q:Exit->Act->World->Prop}:∀e a w,e≠.normal->kQ P st Q e a w->Q e a w:=λe a w he h=>by
 cases e<;>first|exact absurd rfl he|exact h
def BO (md:Region.Mode)(ops:Array Oper)(listed:Array Bool):Prop:=
 ∀(i:Nat) (o:Oper) (e:Edge),listed.getD i false=true->ops[i]? =some o->e∈o.after->Region.binds md e=true->listed.getD e.on false=true
theorem jF (hs:listed.size=ops.size)(hlt:∀(i:Nat) (o:Oper) (e:Edge),ops[i]? =some o->e∈o.after->e.on<i):∀(n j:Nat),j<=n->j<ops.size->listed.getD j true=false->Region.ready md ops listed≠[]
 |0,j,hj,hjs,h0=>by
  obtain rfl:j=0:=by omega
  refine List.ne_nil_of_mem (a:=0) (mem_ready.2 ⟨h0,ops[0],by simp[hjs],λe he _=>?_⟩)
  have:=hlt 0 ops[0] e (by simp[hjs]) he
  omega
 |n+1,j,hj,hjs,h0=>by
  by_cases hall:∀i,i<j->listed.getD i true=true
  ·refine List.ne_nil_of_mem (a:=j) (mem_ready.2 ⟨h0,ops[j],by simp[hjs],λe he _=>?_⟩)
   have g:=hlt j ops[j] e (by simp[hjs]) he
   have d:=hall e.on g
   have:e.on<listed.size:=by omega
   simpa[this] using d
  have ⟨i,b⟩:=Classical.not_forall.1 hall
  obtain⟨f,b⟩:=Classical.not_imp.1 b
  have c:listed.getD i true=false:=by simpa using b
  exact jF hs hlt n i (by omega) (by omega) c
theorem mV (hsh:BO md ops listed)(hsz:ops.size=L+1)(hs:listed.size=ops.size)(nxt:Nat->Nat)(hn:∀j,j<L->j<nxt j/\nxt j<=L/\∃o,ops[nxt j]? =some o/\∃e∈o.after,Region.binds md e=true/\e.on=j)(hr:L∈Region.ready md ops listed):∀n j,L-j<=n->j<L->listed.getD j false=true
 |0,j,hj,hl=>by omega
 |n+1,j,hj,hl=>by
  obtain⟨h1,h2,o,ho,e,he,hb,rfl⟩:=hn j hl
  by_cases hL:nxt e.on=L
  ·obtain⟨_,c,b,a⟩:=mem_ready.1 hr
   rw[hL,b] at ho
   cases ho
   exact a e he hb
  exact hsh _ o e (mV hsh hsz hs nxt hn hr n (nxt e.on) (by omega) (by omega)) ho he hb
theorem tB {Q:Exit->Act->World->Prop}(h1:ops[L]? =some st)(hd:st.dst=none)(hg:st.guard=none)(hsz:ops.size=L+1)(hlt:∀(i:Nat) (o:Oper) (e:Edge),ops[i]? =some o->e∈o.after->e.on<i)(nxt:Nat->Nat)(hn:∀j,j<L->j<nxt j/\nxt j<=L/\∃o,ops[nxt j]? =some o/\∃e∈o.after,Region.binds md e=true/\e.on=j):
 ∀(fuel:Nat) (listed:Array Bool) (a:Act) (w:World),listed.size=ops.size->listed.getD L true=false->BO md ops listed->wpAny P md (ops.setIfInBounds L (nop st)) (kQ P st Q) fuel listed a w->wpAny P md ops Q fuel listed a w:=by
 have g:L<ops.size:=by omega
 have c:∀listed,Region.ready md (ops.setIfInBounds L (nop st)) listed=Region.ready md ops listed:=λlisted=>by
  unfold Region.ready;rw[Array.size_setIfInBounds];congr 1;funext i;by_cases e:L=i
  ·subst e;rw[Array.getElem?_setIfInBounds,h1];simp[g,nop]
  rw[Array.getElem?_setIfInBounds_ne e]
 have m:∀t,yielded (ops.setIfInBounds L (nop st)) t=yielded ops t:=λt=>by
  funext j;unfold yielded;by_cases e:L=j
  ·subst e;rw[Array.getElem?_setIfInBounds,h1];simp[g,nop,hd]
  rw[Array.getElem?_setIfInBounds_ne e]
 intro fuel;induction fuel with
 |zero=>
  intro listed a w hs hL _ h;have E:=h.1;rw[c] at E;exact absurd E (jF hs hlt L L (b_ _) g hL)
 |succ fuel ih=>
  intro listed a w hs hL hsh h;refine⟨λhe=>absurd he (jF hs hlt L L (b_ _) g hL),λi hi=>?_⟩;have b:=h.2 i (by rw[c];exact hi);by_cases e:i=L
  ·subst e;have z:=λj hj=>mV hsh hsz hs nxt hn hi (i-j) j (b_ _) hj
   have d:Region.ready md ops (listed.setIfInBounds i true)=[]:=by
    rcases hr:Region.ready md ops (listed.setIfInBounds i true) with _|⟨j,l⟩
    ·rfl
    have I:j∈Region.ready md ops (listed.setIfInBounds i true):=by rw[hr];simp
    obtain⟨r,o,p,_⟩:=mem_ready.1 I;have H:=(j_.1 p).1;by_cases hji:i=j
    ·subst hji;have:i<listed.size:=by omega
     simp[this] at r
    rw[getD_set_ne true hji] at r;have v:=z j (by omega);have:j<listed.size:=by omega
    simp[this] at r v;rw[v] at r;cases r
   unfold wpOp at b ⊢;rw[Array.getElem?_setIfInBounds] at b;simp only[g,if_true] at b;rw[h1];have u:∀f,Region.wanted st f=true:=λf=>by simp[Region.wanted,hg]
   have C:∀f,Region.wanted (nop st) f=true:=λf=>by simp[Region.wanted,nop,hg]
   simp only[u,if_true];simp only[C,if_true] at b
   have D:∀a w,wpAny P md (ops.setIfInBounds i (nop st)) (kQ P st Q) fuel (listed.setIfInBounds i true) a w->kQ P st Q .normal a w:=λa w hh=>by
    cases fuel with
    |zero=>exact hh.2
    |succ n=>exact hh.1 (by rw[c];exact d)
   rcases b with b|⟨b,v⟩
   ·have F:kQ P st Q .normal a w:=D _ _ (Cm b);refine .inl (vl (λa' w' hQ=>?_) (λ_ _ _ _ h=>h) F);cases fuel with
    |zero=>exact⟨d,hQ⟩
    |succ n=>exact⟨λ_=>hQ,λk hk=>by rw[d] at hk;cases hk⟩
   exfalso;have G:noRoomEvent∈(#[]:Array Event):=b.1;simp at G
  have A:L≠i:=λx=>e x.symm
  have q:∀a w,wpAny P md (ops.setIfInBounds L (nop st)) (kQ P st Q) fuel (listed.setIfInBounds i true) a w->wpAny P md ops Q fuel (listed.setIfInBounds i true) a w:=λa w hh=>by
   refine ih _ a w (by simpa using hs) (by rw[getD_set_ne true e];exact hL) (λk o x hk p hx hb=>?_) hh;by_cases hki:i=k
   ·subst hki;obtain⟨_,J,B,s⟩:=mem_ready.1 hi;rw[B] at p;cases p
    exact getD_set_true (s x hx hb)
   rw[getD_set_ne false hki] at hk;exact getD_set_true (hsh k o x hk p hx hb)
  unfold wpOp at b ⊢;rw[Array.getElem?_setIfInBounds_ne A] at b;cases p:ops[i]? with
  |none=>rw[p] at b;exact q _ _ b
  |some o=>
   rw[p] at b;simp only[m] at b;by_cases u:Region.wanted o (yielded ops a.tmps)=true
   ·simp only[u,if_true] at b ⊢;exact b.imp (vl q kQ.other) (λ⟨x,y⟩=>⟨x,mW kQ.other y⟩)
   simp only[u] at b ⊢;exact q _ _ b
variable{args:Array Value}{ol:List Oper}{i id n:Nat}{C:World->Prop}
def j9 (l:List Oper):Bool:=l.all λo=>match o.op with|.defer _=>false|_=>true
theorem io {l:List Oper}(h:j9 l=true){i:Nat}{o:Oper}(ho:l.toArray[i]? =some o):∀c,o.op≠.defer c:=λc e=>by
 have a:o∈l:=by
  rw[List.getElem?_toArray] at ho;exact List.mem_of_getElem? ho
 have:=List.all_eq_true.1 h o a;rw[e] at this;cases this
theorem dh {f:FuncId}{R:Ending->World->Prop}(l n:Nat)(h:Calls P f args w R):CallsIn (Fence.wide.inRound l) n P f args w R:=CallsIn.inRound l (callsIn_wide.2 h)
theorem wB {l:Nat}{Q:Exit->Act->World->Prop}{K:Act->Prop}(hd:∀o,ops[i]? =some o->∀c,o.op≠.defer c)(hw:C w)(hK:∀a w,C w->K a->K' a w)(h:qOp P ops C i K a):
 wpOpIn (Fence.wide.inRound l) n P ops Q i K' a w:=by
 unfold qOp at h;unfold wpOpIn;cases ho:ops[i]? with
 |none=>
  simp only[ho] at h ⊢;exact hK _ _ hw h
 |some o=>
  simp only[ho] at h ⊢;by_cases hwt:Region.wanted o (yielded ops a.tmps)=true
  ·simp only[hwt,if_true] at h ⊢;obtain⟨v,j,d⟩:=h;have b:=j w hw;unfold Oper.quietAt at b;refine⟨λ_ _=>trivial,?_⟩;rw[Oper.semAt_eq _ _ _ (hd o ho)];generalize (execOp a.eval o).run P w=r at b ⊢;cases r with
   |ok nx w'=>
    cases nx<;>simp only[Oper.quietUpon] at b<;>simp only[Oper.uponIn]
    case value=>obtain⟨rfl,rfl⟩:=b;exact hK _ _ hw d
    case skip=>obtain⟨rfl,rfl⟩:=b;exact hK _ _ hw d
    obtain⟨rfl,g⟩:=b;refine⟨λe=>by simp[Fence.wide] at e,dh l _ (g.mono ?_)⟩;rintro e k ⟨rfl,f⟩;exact hK _ _ f d
   |halt x w'=>cases x<;>exact b.elim
  simp only[hwt] at h ⊢;exact⟨λ_ _=>trivial,hK _ _ hw h⟩
theorem mY {l:Nat}{Q:Act->Prop}(hd:∀(i:Nat) (o:Oper),ops[i]? =some o->∀c,o.op≠.defer c)(hQ:∀a w,C w->Q a->Q' .normal a w):∀(fuel:Nat) (listed:Array Bool) (a:Act) (w:World),C w->
 wpAnyQ P md ops C Q fuel listed a->wpAnyIn (Fence.wide.inRound l) n P md ops Q' fuel listed a w
 |0,_,_,_,hw,h=>⟨h.1,hQ _ _ hw h.2⟩
 |fuel+1,_,_,_,hw,h=>⟨λh0=>hQ _ _ hw (h.1 h0),λi hi=>wB (hd i) hw (λa' w' hw'=>mY hd hQ fuel _ a' w' hw') (h.2 i hi)⟩
theorem bY {l:Nat}{Q:Exit->Act->World->Prop}(hm:P.follows .mixedOrders=true)(hB:Region.lexB .any ol.toArray=true)(hd:j9 ol=true)(h:wpQuiet P ol.toArray (λw'=>∃n,w'=w.drewN n) (λa'=>∀w',(∃n,w'=w.drewN n)->Q .normal a' w') ol a):(Code.region id ol.toArray true).wpIn (Fence.wide.inRound l) n P Q a w:=by
 simp only[Region.lexB,Bool.and_eq_true] at hB;refine wpIn_region_any hm (mY (C:=λw'=>∃n,w'=w.drewN n) (Q:=λa'=>∀w',(∃n,w'=w.drewN n)->Q .normal a' w') (λi o ho=>io hd ho) (λ_ w' hw' h=>h w' hw') _ _ _ _ ⟨1,rfl⟩ ?_);have:=wpAnyQ_lex (C:=λw'=>∃n,w'=w.drewN n) (md:=.any) hB.1 ol.toArray.toList 0 (Array.replicate ol.toArray.size false) a (by simp) (by simpa using hB.2) (by simpa using h);simpa using this
theorem tD {row:String}{R:Value->World->Prop}(l n:Nat)(h:Rows P row args w R):RowsIn (Fence.wide.inRound l) n P row args w R:=λc cs _=>by
 obtain⟨v,a,r,s⟩:=h c cs
 exact⟨v,a,r,stepsIn_wide.2 s⟩
theorem AL {l:Nat}{Q:Exit->Act->World->Prop}{K:Act->World->Prop}(hd:∀o,ops[i]? =some o->∀c,o.op≠.defer c)(hL:¬LetsOut Q)(hK:∀a w,K a w->K' a w)(h:wpOp P ops Q i K a w):
 wpOpIn (Fence.wide.inRound l) n P ops Q i K' a w:=by
 unfold wpOp at h;unfold wpOpIn;cases ho:ops[i]? with
 |none=>
  simp only[ho] at h ⊢;exact hK _ _ h
 |some o=>
  simp only[ho] at h ⊢;by_cases hwt:Region.wanted o (yielded ops a.tmps)=true
  ·simp only[hwt,if_true] at h ⊢;rcases h with h|h
   ·refine⟨λ_ _=>trivial,?_⟩;rw[Oper.semAt_eq _ _ _ (hd o ho)];unfold Oper.wp at h;generalize (execOp a.eval o).run P w=r at h ⊢;cases r with
    |ok nx w'=>
     cases nx<;>simp only[Oper.upon] at h<;>simp only[Oper.uponIn]<;>first
      |exact hK _ _ h
      |exact h.elim
      |exact⟨λe=>by simp[Fence.wide] at e,tD l _ (Rows.mono h λ_ _=>hK _ _)⟩
      |(refine⟨λe=>by simp[Fence.wide] at e,dh l _ (Calls.mono h ?_)⟩;intro e w'' he;cases e<;>first|exact hK _ _ he|exact he)
    |halt x w'=>cases x<;>first|exact h|exact h.elim
   exact absurd h.2 hL
  simp only[hwt] at h ⊢;exact⟨λ_ _=>trivial,hK _ _ h⟩
theorem mX {l:Nat}{Q:Exit->Act->World->Prop}(hd:∀(i:Nat) (o:Oper),ops[i]? =some o->∀c,o.op≠.defer c)(hL:¬LetsOut Q):∀(fuel:Nat) (listed:Array Bool) (a:Act) (w:World),
 wpAny P md ops Q fuel listed a w->wpAnyIn (Fence.wide.inRound l) n P md ops Q fuel listed a w
 |0,_,_,_,h=>h
 |fuel+1,_,_,_,h=>⟨h.1,λi hi=>AL (hd i) hL (λa' w'=>mX hd hL fuel _ a' w') (h.2 i hi)⟩
theorem fp {l:Nat}{Q:Exit->Act->World->Prop}{S:World->Prop}(hm:P.follows .mixedOrders=true)(hd:j9 ol=true)(hL:¬LetsOut Q)(hS:S w.drew)(h:S w.drew->wpAnyH P .any ol.toArray Q S ol.toArray.size (Array.replicate ol.toArray.size false) a w.drew):(Code.region id ol.toArray true).wpIn (Fence.wide.inRound l) n P Q a w:=
 wpIn_region_any hm (mX (λ_ _ ho=>io hd ho) hL _ _ _ _ (wpAny_of_held _ _ _ _ (h hS)))
theorem lP {l:Nat}(ops':Array Oper)(L:Nat)(st:Oper){Q:Exit->Act->World->Prop}{S:World->Prop}{a:Act}{w:World}(hm:P.follows .mixedOrders=true)(hdf:j9 ol=true)(hL:¬LetsOut Q)(h1:ol.toArray[L]? =some st)(hd:st.dst=none)(hg:st.guard=none)(hsz:ol.toArray.size=L+1)(hlt:∀(i:Nat) (o:Oper) (e:Edge),ol.toArray[i]? =some o->e∈o.after->e.on<i)(nxt:Nat->Nat)(hn:∀j,j<L->j<nxt j/\nxt j<=L/\∃o,ol.toArray[nxt j]? =some o/\∃e∈o.after,Region.binds .any e=true/\e.on=j)(he:ops'=ol.toArray.setIfInBounds L (nop st))(hS:S w.drew)(h:S w.drew->wpAnyH P .any ops' (kQ P st Q) S ops'.size (Array.replicate ops'.size false) a w.drew):(Code.region id ol.toArray true).wpIn (Fence.wide.inRound l) n P Q a w:=by
 have b:=wpAny_of_held _ _ _ _ (h hS);subst he;rw[Array.size_setIfInBounds] at b;refine wpIn_region_any hm (mX (λ_ _ ho=>io hdf ho) hL _ _ _ _ (tB h1 hd hg hsz hlt nxt hn _ _ _ _ (by simp) ?_ ?_ b))
 ·have:L<ol.toArray.size:=by omega
  simp only[Array.getD_eq_getD_getElem?,Array.getElem?_replicate,this,if_true,Option.getD_some]
 intro i o e hi;by_cases hh:i<ol.toArray.size
 ·simp only[Array.getD_eq_getD_getElem?,Array.getElem?_replicate,hh,if_true,Option.getD_some] at hi;cases hi
 simp only[Array.getD_eq_getD_getElem?,Array.getElem?_replicate,hh,if_false,Option.getD_none] at hi;cases hi
variable{xs:List Value}{size:Nat}{e:TypeId}{v:Value}
theorem yi (h:Sl w e size v n xs):∃a m c,v=.slice a m c:=by
 obtain⟨a,c,e⟩:=h.form;exact⟨a,_,c,e⟩
theorem yh (p:Nat)(f b:Int)(a:Option Addr)(m c:Nat)(jv:Value)(w:World)(hB:Bx w p 240 #[.slice a m c,I f,I b,jv]):
 c_ 246 #[ptr p] w λe w'=>e=.returned (.tuple #[])/\Bx w' p 240 #[.slice a m c,I 0,I 0,.pointer none]/\ai w w' (λk=>k=p):=by
 have d:=hd hB;have g:=hB.cell (i:=0) rfl;have h:=hB.cell (i:=1) rfl;have j:=hB.cell (i:=2) rfl;have l:=hB.cell (i:=3) rfl;have n:=hB.fr;clear hB;unfold ptr;go_enter func246,ntmps246;go_wp2;go_end0;refine⟨rfl,?_,((((ai.refl w λk=>k=p).set (.inl rfl)).set (.inl rfl)).set (.inl rfl)).set (.inl rfl)⟩;have:=(((d.out.set 0 (.slice a m c)).set 1 (I 0)).set 2 (I 0)).set 3 (.pointer none);simpa using this
theorem oW (p b:Nat)(cs:Array Value)(w:World)(hB:Bx w p 240 cs)(h2:cs[2]? =some (I b))(r:Bool)(hr:r=decide (b≠0)):
 c_ 189 #[ptr p] w λe w'=>e=.returned (.bool r)/\w'=w:=by
 have d:=hB.cell h2;clear hB h2;unfold ptr;by_cases hb:b=0
 ·subst hb;obtain rfl:r=false:=by simpa using hr
  clear hr;go_enter func189,ntmps189;go_wp2;go_ret;exact⟨rfl,rfl⟩
 obtain rfl:r=true:=by simpa[hb] using hr
 clear hr;have c:((b:Int) !=0)=true:=by simp;omega
 have a:((b:Int)==0)=false:=by simp;omega
 go_enter func189,ntmps189;go_wp2;go_ret;exact⟨rfl,rfl⟩
theorem vm (yb p f t:Nat)(ds cs:Array Value)(w:World)(hY:Bx w yb 201 ds)(h4:ds[4]? =some (I t))(hB:Bx w p 240 cs)(h1:cs[1]? =some (I f))(r:Bool)(hr:r=decide (t<f)):
 c_ 213 #[ptr yb,ptr p] w λe w'=>e=.returned (.bool r)/\∃n,w'=w.drewN n:=by
 have c:=hB.cell h1;have d:=hY.cell h4;clear hB h1 hY h4;unfold ptr;by_cases hb:t<f
 ·obtain rfl:r=true:=by simpa[hb] using hr
  clear hr;have b:decide ((f:Int)>t)=true:=by simp;omega
  have a:(t:Int)<f:=by omega
  go_enter func213,ntmps213;go_wp2;go_quiet (fail);go_wp2;go_ret;exact⟨rfl,_,rfl⟩
 obtain rfl:r=false:=by simpa[hb] using hr
 clear hr;have a:¬(t:Int)<f:=by omega
 go_enter func213,ntmps213;go_wp2;go_quiet (fail);go_wp2;go_ret;exact⟨rfl,_,rfl⟩
theorem rj (p jb:Nat)(num:Int)(f b:Int)(cv:Value)(js:Array Value)(w:World)(hB:Bx w p 240 #[cv,I f,I b,ptr jb])(hJ:Bx w jb 242 js)(h0:js[0]? =some (I num)):
 c_ 119 #[ptr p,.bool true] w λe w'=>e=.returned (.tuple #[])/\Bx w' p 240 #[cv,I f,I num,.pointer none]/\ai w w' (λk=>k=p):=by
 have a:=hd hB;have d:=hB.cell (i:=2) rfl;have g:=hB.c 3 (Px jb);have j:=hJ.cell h0;have h:=hB.fr;clear hB hJ;unfold ptr;go_enter func119,ntmps119;go_wp2;go_end0;refine⟨rfl,?_,(((ai.refl w λk=>k=p).set (.inl rfl)).set (.inl rfl))⟩;have:=(a.out.set 2 (I num)).set 3 (.pointer none);simpa using this
theorem lI (p f:Nat)(b:Int)(cv jv:Value)(w:World)(hB:Bx w p 240 #[cv,I f,I b,jv])(hf:f<1048576000):
 c_ 119 #[ptr p,.bool false] w λe w'=>e=.returned (.tuple #[])/\Bx w' p 240 #[cv,I ((f+1:Nat):Int),I b,.pointer none]/\ai w w' (λk=>k=p):=by
 have a:=hd hB;have c:=hB.cell (i:=1) rfl;have d:=hB.cell (i:=3) rfl;have g:=hB.fr;clear hB;unfold ptr;go_enter func119,ntmps119;go_wp2;go_end0;refine⟨rfl,?_,(((ai.refl w λk=>k=p).set (.inl rfl)).set (.inl rfl))⟩;have:=(a.out.set 1 (I ((f:Int)+1))).set 3 (.pointer none);simpa using this
variable{E:Prop}
theorem wD {o:Oper}{K:Act->World->Prop}{Q:Exit->Act->World->Prop}(hg:o.guard=none)(f:FuncId)(xs:List Operand)(tys:Array TypeId)(ho:o.op=Op.call {callee:=Callee.value (Operand.func f),args:=xs.toArray,argTypes:=tys})(args:List Value)(ha:xs.map a.eval=args)(he:∀args w,(callFunc f args).run P w=.ok (.enter f args) w){R:Ending->World->Prop}(hC:Calls P f args.toArray w R)(hK:∀e w',R e w'->∃v,e=.returned v/\K (a.put o.dst v) w'):if Region.wanted o (yielded ops a.tmps)=true then Oper.wp P o a w K Q else E:=by
 have c:Region.wanted o (yielded ops a.tmps)=true:=by simp[Region.wanted,hg]
 rw[if_pos c];unfold Oper.wp execOp;simp only[ho,resolve,invoke,Act.eval,List.map_toArray];subst ha;simp[go_sem,he,Oper.upon];refine hC.mono ?_;intro e w' h;obtain⟨v,rfl,b⟩:=hK e w' h;exact b
theorem o4 (mb:Nat)(es:Array MapEntry)(clock:Nat)(w:World)(hb:w.heap[mb]? =some (.map es clock)):
 c_ 242 #[.map (some mb)] w λe w'=>e=.returned (.map (some w.heap.size))/\w'=w.alloc (.map es clock):=by
 have a:=λw=>run_eql_map_nil_sl (P:=prog) w 132 _ _ (some mb) fH;go_enter func242,ntmps242;go_wp2_with fail;rw[run_callFunc_extern func265 (by kernel_rfl) (by kernel_rfl) (by kernel_rfl) (e:=Extern.MapsClone.clone) (by kernel_rfl),run_maps_clone_sl w 132 hb];simp only[Result.andThen];rw[Oper.upon_value];go_wp2_with fail;rw[run_typeAssert_map_sl _ 132 _ _ _ _ fH];simp only[Result.andThen];rw[Oper.upon_value];go_wp2_with fail;go_ret;exact⟨rfl,rfl⟩
theorem yt (mb n:Nat)(g:ByteArray->ByteArray)(w:World)(hM:aD w mb n g):
 c_ 208 #[.map (some mb)] w λe w'=>e=.returned (.map (some w.heap.size))/\aD w' w.heap.size n g/\Bl w w':=by
 obtain⟨D,⟨b,a,d,F,f,c⟩,hM⟩:=hM;go_enter func208,ntmps208;go_wp2_with fail;go_fit (o4 mb b a w d);rintro e h ⟨rfl,rfl⟩;go_wp2_with fail;go_ret;exact⟨rfl,⟨D,⟨b,a,(MapKept.heap_alloc w _).1,F,f,c⟩,hM⟩,af w _⟩
section
open Go.Shelf
attribute [local go_sem] Oper.semAt_some
abbrev Pt (ps:List Nat):={p:Nat//p∈ps}
def jD (v:Value)(A B:World):Prop:=∀g,v.ownBlock=some g->B.heap[g]? =A.heap[g]?
theorem Cl (F:Fence)(n:Nat)(hF:F.fn 223)(hro:F.round=none)(hn:1<=n)(l Bs:Nat)(a:Option Addr)(cap:Nat)(ps:List Nat)(hlen:ps.length<=1048576)(J Jx:List (Pt ps)->World->Prop)(hY:∀pre x W,J pre W->pre.length<ps.length->YieldAt F (n-1) prog l #[ptr x.1] W λe W'=>(e=.returned (.bool true)/\J (pre++[x]) W'/\jD (.slice a ps.length cap) W W')\/(e=.returned (.bool false)/\Jx (pre++[x]) W'))(W:World)(hBs:W.cell? ⟨Bs,0,none⟩=some (.slice a ps.length cap))(hS:Sl W 210 1 (.slice a ps.length cap) ps.length (ps.map ptr))(h0:J [] W):
 CallsIn F n prog 223 #[.func (.yield l) #[] #[],Px Bs] W λe W'=>(∃v,e=.returned v)/\
  ((∃ys,ys=ps.attach/\J ys W')\/(∃pre,(∃k,k<=ps.length/\pre=ps.attach.take k)/\Jx pre W')):=by
 have y:=hd hS;have f:Hid (ps.attach.length=ps.length):=List.length_attach;clear hS;refine callsIn_of_wp func223 rfl hF ?_ hro;simp only[ntmps223,List.size_toArray,List.length_cons,List.length_nil,Nat.reduceAdd,Nat.reduceSub,Array.replicate_succ,Array.replicate_zero,List.push_toArray,List.append_toArray,List.nil_append,List.cons_append];gi_wp2
 gi_loopw [7] (λi wr=>∃k:Nat,k<=ps.length/\i=I k/\J (ps.attach.take k) wr/\Hid (Sl wr 210 1 (.slice a ps.length cap) ps.length (ps.map ptr)))
  (λi _=>ps.length-(intOf i).toNat)
 case atStart=>exact⟨0,k_ _,rfl,h0,y⟩
 obtain⟨k,E,rfl,b,hS⟩:=hrel;by_cases hlt:k<ps.length
 ·obtain⟨g,q,t,A,_⟩:=hS.out.addr (by omega);cases A
  have p:k<ps.attach.length:=by rw[f.out];exact hlt
  obtain⟨D,w,d,s,B,z⟩:=hY _ ps.attach[k] wr b (by rw[l_,f.out];omega)
  have m:wr.cell? ⟨g,q+k,none⟩=some (ptr ps.attach[k].1):=by
   have:=hS.out.cell (j:=k) (u:=ptr ps.attach[k].1) (by simp[hlt]);exact this
  have r:=hd (g_ p);generalize ps.attach[k]=x at *;unfold ptr at m B;gi_wp2;refine z.mono ?_;rintro e C (⟨rfl,h,o⟩|⟨rfl,c⟩)
  ·gi_wp2;go_roundw
   case rel=>exact⟨k+1,by omega,by simp,by rw[r.out];exact h,hS.out.kept o⟩
   case measure=>simp[intOf];omega
  gi_wp2;refine bodyPost_ret (results_none rfl _ _ _) rfl ?_;exact⟨⟨_,rfl⟩,.inr ⟨_,⟨k+1,by omega,r.out.symm⟩,c⟩⟩
 obtain rfl:k=ps.length:=by omega
 gi_wp2;go_end0;exact⟨⟨_,rfl⟩,.inl ⟨_,rfl,by have:=b;rwa [<-f.out,W_] at this⟩⟩
theorem fR (F:Fence)(n:Nat)(hF:F.fn 223)(hro:F.round=none)(hn:1<=n)(Bs:Nat)(v:Value)(ps:List Nat)(hlen:ps.length<=1048576)(w:World)(hB:Bs<w.heap.size)(hc:w.cell? ⟨Bs,0,none⟩=some v)(hS:Sl w 210 1 v ps.length (ps.map ptr)):
 SeqStopsK F n prog 223 #[Px Bs] (λx:Pt ps=>#[ptr x.1]) (jD v) (λys=>ys=ps.attach) (λpre=>∃k,k<=ps.length/\pre=ps.attach.take k) ps.length w:=λl J Jx W hW _ _ hY h0=>by
 have c:=(hW.cell (p:=⟨Bs,0,none⟩) hB).trans hc
 obtain⟨a,b,rfl⟩:=hS.form
 exact Cl F n hF hro hn l Bs a b ps hlen J Jx hY W c (hS.later hW) h0
theorem AK (a:Option Addr)(m cap:Nat)(w:World):
 c_ 188 #[.slice a m cap] w λe w'=>e=.returned (.func (.func 223) #[] #[Px w.heap.size])/\w'=w.alloc (.cells #[.slice a m cap] 195):=by
 go_enter func188,ntmps188;go_wp2_with fail;go_ret;exact⟨rfl,rfl⟩
theorem im (yb:Nat)(a:Option Addr)(m cap:Nat)(w:World)(hc:w.cell? ⟨yb,11,none⟩=some (.slice a m cap)):
 c_ 147 #[.pointer (some ⟨yb,11,none⟩)] w λe w'=>e=.returned (.func (.func 223) #[] #[Px w.heap.size])/\w'=w.alloc (.cells #[.slice a m cap] 195):=by
 go_enter func147,ntmps147;go_wp2_with fail;go_fit (AK a m cap w);rintro e b ⟨rfl,rfl⟩;go_wp2_with fail;go_ret;exact⟨rfl,rfl⟩
theorem iP {A B C:World}(h:jD v A B)(k:jD v B C):jD v A C:=λg hg=>(k g hg).trans (h g hg)
theorem jC (hv:∀g,v.ownBlock=some g->g<w.heap.size)(W:World)(l:Nat)(o o':Obj)(hl:w.heap.size<=l)(_:W.heap[l]? =some o)(_:o.isCells=false)(_:o.isWalk=false):jD v W (W.putObj l o'):=λg hg=>World.putObj_heap_other (by have:=hv g hg;omega)
end
variable{g:ByteArray->ByteArray}{cl:List Cw}{k mb n':Nat}{S:Nat->Prop}{cv:Value}
theorem aD.more (h:aD w mb n g)(hn:n<=n'):aD w mb n' g:=by
 obtain⟨D,⟨b,a,i,c,d,e⟩,f⟩:=h;exact⟨D,⟨b,a,i,c,e_ d hn,e⟩,f⟩
theorem ru {l:List Ed}(h:Sl w e 3 v l.length (l.flatMap cE)):aH w v l:=by
 cases hl:l with
 |nil=>
  obtain⟨a,b,rfl⟩:=h.form;rw[hl];exact .inl ⟨rfl,a,b,rfl⟩
 |cons x m=>
  rw[<-hl];obtain⟨g,c,b,rfl,_⟩:=h.addr (by rw[hl];simp)
  have d:∀i (hi:i<l.length) j,j<3->∀u,(cE l[i])[j]? =some u->w.cell? ⟨g,c+(i*3+j),none⟩=some u:=λi hi j hj u hu=>by
   refine h.cell ?_;rw[aq cE 3 (λ_=>rfl) l i j hi hj];exact hu
  refine .inr ⟨g,c,b,rfl,h.lt rfl,λi hi=>d i hi 0 (by omega) _ rfl,λi hi=>?_,λi hi=>?_⟩
  ·have:=d i hi 1 (by omega) _ rfl;rwa [<-J_] at this
  have:=d i hi 2 (by omega) _ rfl;rwa [<-J_] at this
theorem mg {l:List Cg}(h:dY w S cv l cl):cl.length=l.length:=by rw[<-h.fst,d_]
theorem rx {y:Cg}{l:List Cg}{hk:k<l.length}(e:y=l[k])(hx:∀y∈l,bT y.2)(_:k<l.length):y.2.length<=4:=by
 rw[e];exact(hx _ (i_ hk)).2.1
theorem ry (S:Nat->Prop)(N p bm n:Nat)(x:Sm)(cv jv:Value)(cl:List Cw)(g:ByteArray->ByteArray)(w:World)(h:q7 w S N p x cv jv cl)(hM:aD w bm n g)(hx:∀y∈x.l,bT y.2)(hl:x.l.length<=8)(hn:n<8796093000000):
 c_ 209 #[ptr p,.map (some bm)] w λe w'=>e=.returned (I (aB g x.l).2)/\((aB g x.l).2=x.l.length->aD w' bm (n+4*x.l.length) (aB g x.l).1)/\w.grownBy w' (some bm):=by
 have W:=mg h.chs;have HB:=hd (h.box);have J:=hd (h.chs);have P:=hM.ne_box h.box;have O:=hM.ne_sl h.chs.row;have Y:Hid (∀y∈cl,y.2.ownBlock≠some bm):=λy E=>hM.ne_sl (h.chs.eds y E).1;obtain⟨ca,cc,rfl⟩:=h.chs.row.form;have x0:=h.box.c 0 (.slice ca cl.length cc);have HN:=hd hn;have Z:=hd hM;clear h hM hn;unfold ptr;go_enter func209,ntmps209;go_wp2_with fail;go_loopw [12] (λi wr=>∃k:Nat,k<=cl.length/\i=I k/\Hid ((aB g (x.l.take k)).2=(x.l.take k).length)/\Hid (aD wr bm (n+4*k) (after g (x.l.take k)))/\Hid (w.grownBy wr (some bm))) (λi _=>cl.length-(intOf i).toNat)
 case atStart=>exact⟨0,k_ _,rfl,rfl,Z.out,World.grownBy.refl _ _⟩
 obtain⟨k,hk,rfl,K,Q,r⟩:=hrel;have ac:=K_ r.out x0 (λe=>P (Option.some.inj e).symm);by_cases hlk:k<cl.length
 ·have H:=J.out.row.grown r.out (λg hg e=>O (by rw[hg,e]));obtain⟨b,F,aa,e,V,_⟩:=H.addr (by omega);cases e
  have f:k<x.l.length:=by omega
  have a:cl[k].1=x.l[k]:=by
   have:=J.out.fst;simp[<-this]
  have E:=J.out.eds cl[k] (i_ hlk);have c0:wr.cell? ⟨b,F+k*2,none⟩=some (I cl[k].1.1):=H.cell (by rw[show k*2=k*2+0 from rfl,aq cC 2 (λ_=>rfl) cl k 0 hlk (by omega)];rfl)
  have c1:wr.cell? ⟨b,F+k*2+1,none⟩=some cl[k].2:=by
   have:=H.cell (j:=k*2+1) (u:=cl[k].2) (by rw[aq cC 2 (λ_=>rfl) cl k 1 hlk (by omega)];rfl);rwa [<-J_] at this
  have m:bT cl[k].1.2:=by rw[a];exact hx _ (i_ f)
  have s:=ru (E.1.grown r.out (λg hg e=>Y.out cl[k] (i_ hlk) (by rw[hg,e])));obtain⟨G,ec,ee⟩:=E.1.form;obtain⟨D,o,t⟩:=Q.out
  have U:=qg cl[k].1.2 cl[k].2 bm (n+4*k) D (after g (x.l.take k)) (wr.alloc (.cells #[I cl[k].1.1,cl[k].2] 273)) (s.later (af wr _)) m.1 m.2.1 (o.alloc _) t (by have:=HN.out;omega) (λz hz=>by
   have:=(iK z).1 (m.2.2.1 z hz)
   unfold maxLen;omega)
  have R:=hd (g_ f);have d:=hd a;clear o t D H E a m s;rw[ee] at c1 U;go_wp2_with (go_at_call 243;refine U.mono ?_;rintro e w1 ⟨C,A⟩;rcases C with ⟨rfl,v,X,q,M⟩|⟨rfl,B⟩)
  ·go_roundw
   case rel=>
    have G:dX (after g (x.l.take k)) x.l[k].2=true:=(i7 _ _).2 (by rw[<-d.out];exact v);refine⟨k+1,hlk,by go_num,?_,?_,?_⟩
    ·show (aB g (x.l.take (k+1))).2=(x.l.take (k+1)).length;rw[R.out,fN _ _ _ K.out G,a_];rfl
    ·have ab:=(rx d.out hx f);show aD w1 bm (n+4*(k+1)) (after g (x.l.take (k+1)));rw[R.out,mG,<-d.out];exact aD.more ⟨X,q,M⟩ (by omega)
    exact(r.out.trans (v_ _ _ _)).trans A
   case measure=>simp[intOf];omega
  go_ret
  have G:dX (after g (x.l.take k)) x.l[k].2=false:=by
   rw[Bool.eq_false_iff];exact λh=>B (by rw[d.out];exact(i7 _ _).1 h)
  have hm:(aB g x.l).2=k:=by
   have:=gt _ _ x.l[k] (x.l.drop (k+1)) K.out G;rw[<-M_ f,X_,l_] at this;omega
  rw[hm];exact⟨rfl,λe=>by omega,(r.out.trans (v_ _ _ _)).trans A⟩
 go_wp2_with fail;go_ret;obtain rfl:k=x.l.length:=by omega
 have L:=K.out;have T:=Q.out;rw[W_] at L T;rw[L];refine⟨rfl,λ_=>?_,r.out⟩;rw[kM _ _ L];exact T
section
open Go.Shelf
variable{c:Cfg}{zs:List (Nat×Sm)}{pre ps:List Nat}{q:List Pw}{tl:List Tp}{ts:List TypeId}{B N n0 p sb yb:Nat}{row:Option Nat}{s:Ts}{t:TypeId}{ov qv:Value}{W W':World}{x:Xt}
theorem aM.own (hg:W.grownBy W' row)(hr:∀r,row=some r->∃o:Obj,W.heap[r]? =some o/\o.isCells=false):aM W W' [gI]:=
 ⟨hg.size,λk t a ht=>hg.block k a.lt λe=>by
  obtain⟨o,b,d⟩:=hr k e.symm
  rcases a with ⟨c,a⟩|⟨rfl,_⟩
  ·rw[a] at b;cases b;cases d
  exact ht (by simp)⟩
theorem ak.own (h:ak w W S ts)(hB:w.heap.size<=B)(hg:W.grownBy W' row)(hr:∀r,row=some r->B<=r):ak w W' S ts:=
 ⟨hg.os.trans (ai.os h),hg.tape.trans (ai.tape h),hg.output.trans (ai.output h),e_ h.size hg.size,λk hk hn=>(hg.block k (h_ hk h.size) λe=>by have:=hr k e.symm;omega).trans (ai.block h k hk hn)⟩
def bP (w W:World)(S:Nat->Prop)(N:Nat)(zs:List (Nat×Sm))(f:Sm->Sm)(pre:List Nat):Prop:=ak w W S [240]/\∀z∈zs,dt W S N (z.1,if z.1∈pre then f z.2 else z.2)
theorem bP.own {f:Sm->Sm}(hB:w.heap.size<=B):OwnFrom B (λ(pre:List (Pt ps)) W=>bP w W S N zs f (pre.map Subtype.val)):=λs W W' row hs hg hr=>
 ⟨hs.1.own hB hg λr e=>(hr r e).1,λz hz=>(hs.2 z hz).keptT (aM.own hg λr e=>(hr r e).2) (λ_ h=>h) (b_ _) (by decide) (by unfold dO;decide)⟩
theorem bP.start {f:Sm->Sm}(h:∀z∈zs,dt w S N z){W:World}(hb:Bl w W):bP w W S N zs f []:=
 ⟨ak.below hb,λz hz=>by simpa using (h z hz).kept (λk hk _=>hb.block k hk) (λ_ h=>h) (b_ _)⟩
theorem bP.step {f:Sm->Sm}(h:bP w W S N zs f pre)(hnd:(zs.map Prod.fst).Nodup){y:Sm}(hy:(p,y)∈zs)(hO:ai W W' (λk=>k=p))(hs:dt W' S N (p,f y)):bP w W' S N zs f (pre++[p]):=by
 have o:cy W p 240/\S p:=by
  obtain⟨m,q,j,d⟩:=h.2 (p,y) hy;exact⟨d.box.ty,d.own⟩
 have g:ak W W' S [240]:=ak.mk hO λk _ e=>by
  subst e;exact⟨o.2,240,by simp,o.1⟩
 refine⟨ak.mono (ak.trans h.1 g (aE.old w)) (λ_ h=>h) (by decide),λz d=>?_⟩;by_cases e:z.1=p
 ·have:z=(p,y):=by
   have i:∀(l:List (Nat×Sm)),(l.map Prod.fst).Nodup->z∈l->(p,y)∈l->z=(p,y):=λl=>by
    induction l with
    |nil=>intro _ h;cases h
    |cons a l ih=>
     intro hn h1 h2;rw[C_,List.nodup_cons] at hn;rcases R_.1 h1 with rfl|n
     ·rcases R_.1 h2 with c|c
      ·exact c.symm
      exact absurd (q_.2 ⟨_,c,e.symm⟩) hn.1
     rcases R_.1 h2 with rfl|c
     ·exact absurd (q_.2 ⟨_,n,e⟩) hn.1
     exact ih hn.2 n c
   exact i zs hnd d hy
  subst this;simpa using hs
 obtain⟨m,q,j,b⟩:=h.2 z d;have r:(z.1∈pre++[p])↔z.1∈pre:=by simp[e]
 simp only[r];exact⟨m,q,j,(hO.block _ b.box.lt e).trans b.box,b.chs.keptT g.k (λ_ h=>h) (by decide) (by decide),b.job.keptT g.k (λ_ h=>h) (b_ _) (by decide) (by decide),b.own⟩
theorem bP.done {f:Sm->Sm}(h:aU w S yb mb n0 c s q sb qv ov x tl zs)(hE:bP w W S (s.top n0) zs f (zs.map Prod.fst)):aU W S yb mb n0 c {s with segs:=s.segs.map f} q sb qv ov x tl (zs.map λz=>(z.1,f z.2)):=by
 have b:=λ(k:Nat) (hk:S k)=>hk;have O:=hE.1;refine aU.mk' ⟨h.rest.nm,h_ h.rest.ml O.size,h.rest.tip,O.map h.rest.map (by decide),h.rest.main.keptT O.k b (by decide) (by decide),?_,?_,h.rest.train.own,?_,λz hz=>?_⟩ h.is.qs (O.bx h.is.box (by decide)) (h.is.que.keptT O.k b (by decide) (by decide)) (O.sub h.is.sub (by decide)) (h.is.outs.keptT O.k b (by decide)) h.is.fy h.is.fs h.is.nt
 ·rw[y_,<-h.rest.train.snd,y_];rfl
 ·have:=O.sl h.rest.train.row (by decide);rw[d_,y_];exact this
 ·have:=h.rest.train.nd;rw[y_];exact this
 obtain⟨d,a,rfl⟩:=q_.1 hz;have:=hE.2 d a;rwa [if_pos (x_ a)] at this
theorem jE (hO:ai W W' (λk=>k=p))(ht:cy W p t)(hne:t≠gI):KeepsFrom B W W':=
 ⟨hO.size,λk o _ hk ho=>(hO.block k (j_.1 hk).1 λe=>by
  subst e
  rcases ht with ⟨a,ht⟩|⟨e,_⟩
  ·rw[ht] at hk;cases hk;cases ho
  exact hne e).trans hk⟩
theorem p6 (hO:ai W W' (λk=>k=p))(ht:cy W p 240)(hs:Sl W 210 1 v n xs):jD v W W':=λg hg=>hO.block g (hs.lt hg) λe=>by
 subst e
 exact absurd (ht.one (hs.ty hg)) (by decide)
end
section
open Go.Shelf
variable{c:Cfg}{zs:List (Nat×Sm)}{q:List Pw}{tl:List Tp}{n0 sb yb:Nat}{s:Ts}{ov qv:Value}{x:Xt}
attribute [local go_sem] Oper.semAt_some
def gh (x:Sm):Sm:={x with job:=none}
theorem Dw (h:aU w S yb mb n0 c s q sb qv ov x tl zs)(hl:zs.length<=8):
 c_ 122 #[ptr yb] w λe w'=>e=.returned (.tuple #[])/\(∃zs',aU w' S yb mb n0 c s.lose q sb qv ov x tl zs')/\ak w w' S [240]:=by
 obtain⟨u,b,z⟩:=h.rest.train.row.form
 have C:w.cell? ⟨yb,11,none⟩=some (.slice u zs.length b):=by rw[<-z];exact h.is.box.cell (i:=11) rfl
 have m:Bl w (w.alloc (.cells #[.slice u zs.length b] 195)):=af _ _
 have d:Sl w 210 1 (.slice u (zs.map Prod.fst).length b) (zs.map Prod.fst).length ((zs.map Prod.fst).map ptr):=by
  have:=h.rest.train.row
  rw[d_,y_,<-z]
  exact this
 have t:(zs.map Prod.fst).length=zs.length:=d_ _
 unfold ptr
 refine(callsIn_wide (n:=3)).1 ?_
 refine callsIn_of_wp_marks func122 rfl trivial ?_ rfl
 simp only[ntmps122,List.size_toArray,List.length_cons,List.length_nil,Nat.reduceAdd,Nat.reduceSub,Array.replicate_succ,Array.replicate_zero,List.push_toArray,List.append_toArray,List.nil_append,List.cons_append]
 gi_wp2_with (refine⟨trivial,?_⟩;gi_at_call 147;refine(callsIn_wide.2 (im yb u zs.length b w C)).mono ?_;rintro e w' ⟨rfl,rfl⟩)
 rw[t] at d
 refine wpIn_rangeFunc_ownG (α:=Pt (zs.map Prod.fst)) (n:=3) (F:=Fence.wide) rfl (by decide) (gf:=223) (lb:=#[Px w.heap.size]) rfl trivial (enters_of func223 (by kernel_rfl) rfl)
  (fR Fence.wide 2 trivial rfl (by decide) w.heap.size (.slice u zs.length b) (zs.map Prod.fst) (by rw[t];omega) (w.alloc (.cells #[.slice u zs.length b] 195)) (by simp) (by simp) (by rw[t];exact d.mk _)) iP (jC λg hg=>h_ (d.lt hg) m.size) (n_ _ _) (λ_=>rfl)
  (λj W=>bP w W S (s.top n0) zs gh (j.map Subtype.val)) (λ_ _ _=>False) (bP.own m.size) (λ_ _ _ _ _ hs _ _=>hs) (bP.start h.rest.train.segs m)
  (λy=>{tmps:=#[Px yb,undef,Px y.1,Px yb,Px yb,.pointer (some ⟨yb,11,none⟩),.func (.func 223) #[] #[Px w.heap.size],Px y.1,undef,undef,undef],defers:=[]}) ?assign ?body ?done ?stop
 case assign=>
  intro l y W K A
  unfold ptr
  gi_wp2
  exact A
 case body=>
  rintro l j ⟨p,M⟩ W v _
  obtain⟨⟨o,y⟩,H,rfl⟩:=q_.1 M
  obtain⟨J,P,I,a⟩:=v.2 (o,y) H
  have R:=a.box.fr 3
  have Q:=a.box.c 3 P
  gi_wp2
  have B:ai W (W.setCell ⟨o,3,none⟩ (.pointer none)) (λk=>k=o):=(ai.refl W λk=>k=o).set (.inl rfl)
  have E:=a.box.ty
  refine⟨jE B E (by decide),p6 B E (v.1.sl d (by decide)),?_⟩
  have G:dt (W.setCell ⟨o,3,none⟩ (.pointer none)) S (s.top n0) (o,gh (if o∈j.map Subtype.val then gh y else y)):=by
   have O:ak W (W.setCell ⟨o,3,none⟩ (.pointer none)) S [240]:=ak.mk B λk _ e=>by
    subst e
    exact⟨a.own,240,by simp,E⟩
   refine⟨J,.pointer none,I,?_,a.chs.keptT O.k (λ_ h=>h) (by decide) (by decide),rfl,a.own⟩
   have:=a.box.set 3 (.pointer none)
   simpa[cz,gh] using this
  rw[show gh (if o∈j.map Subtype.val then gh y else y)=gh y by split<;>rfl] at G
  have:=v.step h.rest.train.nd H B G
  simpa using this
 case done=>
  rintro D T W L rfl v A
  gi_wp2
  refine⟨by simp,.inl ⟨_,_,rfl,run_takeDeferred A,?_⟩⟩
  have r:=(bP.own (ps:=zs.map Prod.fst) (S:=S) (N:=s.top n0) (zs:=zs) (f:=gh) (w:=w) m.size).putObj (.deferred none) v L A rfl
  rw[List.attach_map_subtype_val] at r
  exact⟨_,results_none rfl _ _ _,rfl,⟨_,r.done h⟩,r.1⟩
 rintro D c j W _ _ h _
 exact h.elim
end
section
open Go.Shelf
variable{c:Cfg}{zs:List (Nat×Sm)}{pre:List Nat}{q:List Pw}{tl:List Tp}{ts:List TypeId}{B N n0 now p sb yb:Nat}{s:Ts}{ov qv:Value}{W:World}{x:Xt}
attribute [local go_sem] Oper.semAt_some
theorem ak.drewN (h:ak w W S ts)(n:Nat):ak w (W.drewN n) S ts:=by
 have a:ai w W _:=h;exact⟨a.os,a.tape,a.output,a.size,a.block⟩
theorem aM.drewN (W:World)(n:Nat):aM W (W.drewN n) []:=⟨b_ _,λ_ _ _ _=>rfl⟩
theorem bP.drewN {f:Sm->Sm}(h:bP w W S N zs f pre)(n:Nat):bP w (W.drewN n) S N zs f pre:=⟨h.1.drewN n,λz hz=>(h.2 z hz).keptT (aM.drewN W n) (λ_ h=>h) (b_ _) (by decide) (by unfold dO;decide)⟩
theorem bP.same {f:Sm->Sm}{y:Sm}(h:bP w W S N zs f pre)(hnd:(zs.map Prod.fst).Nodup)(hy:(p,y)∈zs)(hf:(if p∈pre then f y else y)=f y):bP w W S N zs f (pre++[p]):=by
 have a:=h.2 (p,y) hy;simp only at a;rw[hf] at a;exact h.step hnd hy (ai.refl _ _) a
theorem Dy (c:Cfg)(x:Xt)(b t t':Nat)(qv:Value)(sb n:Nat)(ov:Value):(aA c x b t qv sb n ov).setIfInBounds 13 (I t')=aA c x b t' qv sb n ov:=rfl
theorem aU.setNow (h:aU w S yb mb n0 c s q sb qv ov x tl zs)(t:Nat):
 aU (w.setCell ⟨yb,13,none⟩ (I t)) S yb mb n0 c {s with now:=t} q sb qv ov x tl zs/\ak w (w.setCell ⟨yb,13,none⟩ (I t)) S [201]:=by
 have O:ak w (w.setCell ⟨yb,13,none⟩ (I t)) S [201]:=ak.mk ((ai.refl w λk=>k=yb).set (.inl rfl)) λk hk e=>by
  subst e;exact⟨h.is.fy,201,by simp,h.is.box.ty⟩
 have a:=λ(k:Nat) (hk:S k)=>hk;have b:=h.is.box.set 13 (I t);rw[Dy] at b;exact⟨aU.mk' (h.rest.keptT O.k a h.rest.nm rfl rfl rfl (b_ _) (by unfold jA dO;decide) (O.map h.rest.map (by decide))) h.is.qs b (h.is.que.keptT O.k a (by decide) (by decide)) (O.sub h.is.sub (by decide)) (h.is.outs.keptT O.k a (by decide)) h.is.fy h.is.fs h.is.nt,O⟩
theorem fS (W:World)(n:Nat):KeepsFrom B W (W.drewN n):=⟨b_ _,λ_ _ _ hk _=>hk⟩
def bN (now:Nat)(x:Sm):Sm:=if x.due now then x.ends false 0 else x
theorem lJ {x:Sm}(h:x.job=none):bN now x=x:=by
 unfold bN Sm.due;rw[h];rfl
theorem lK (now:Nat)(x:Sm):bN now (bN now x)=bN now x:=by
 by_cases h:x.due now=true
 ·have e:bN now x=x.ends false 0:=if_pos h;rw[e];exact lJ (Sm.ends_job _ _ _)
 have e:bN now x=x:=if_neg h;rw[e,e]
theorem Dx (m:Nat){c:Cfg}{s:Ts}{w:World}{q:List Pw}{sb:Nat}{qv ov:Value}{x:Xt}{tl:List Tp}{zs:List (Nat×Sm)}(h:aU w S yb mb n0 c s q sb qv ov x tl zs)(hl:zs.length<=8)(hm:m<=1000)(hn:s.now<1048576000)(hf:∀z∈zs,z.2.fails<1000/\∀j,z.2.job=some j->j.til<1048577000):
 c_ 120 #[ptr yb,I m] w λe w'=>e=.returned (.tuple #[])/\(∃zs',aU w' S yb mb n0 c (s.tick m) q sb qv ov x tl zs')/\ak w w' S [201,240]:=by
 obtain⟨M,d,X⟩:=h.rest.train.row.form
 have hN:=(h.later (af w (.cells #[Px yb] 130))).setNow (s.now+m)
 have U:Bx ((w.alloc (.cells #[Px yb] 130)).setCell ⟨yb,13,none⟩ (I ((s.now+m:Nat):Int))) w.heap.size 130 #[Px yb]:=hN.2.bx (Bx.new _ _ _) (by decide)
 have b0:(w.alloc (.cells #[Px yb] 130)).cell? ⟨w.heap.size,0,none⟩=some (Px yb):=(Bx.new w #[Px yb] 130).cell (i:=0) rfl
 have Y:(w.alloc (.cells #[Px yb] 130)).cell? ⟨yb,13,none⟩=some (I s.now):=(h.is.box.mk _).cell (i:=13) rfl
 have ah:=(h.is.box.mk (.cells #[Px yb] 130)).fr 13
 have ac:Hid (ak w ((w.alloc (.cells #[Px yb] 130)).setCell ⟨yb,13,none⟩ (I ((s.now+m:Nat):Int))) S [201]):=ak.from_new hN.2
 have o:Hid (aU ((w.alloc (.cells #[Px yb] 130)).setCell ⟨yb,13,none⟩ (I ((s.now+m:Nat):Int))) S yb mb n0 c {s with now:=s.now+m} q sb qv ov x tl zs):=hN.1
 have E:Hid ((s.now:Int)+(m:Int)=((s.now+m:Nat):Int)):=by
  show _=_
  omega
 have V:(zs.map Prod.fst).length=zs.length:=d_ _
 have T:=hd X
 have HF:=hd hf
 have Q:=hd U
 clear h hN X hf U
 unfold ptr
 refine(callsIn_wide (n:=3)).1 ?_
 refine callsIn_of_wp_marks func120 rfl trivial ?_ rfl
 simp only[ntmps120,List.size_toArray,List.length_cons,List.length_nil,Nat.reduceAdd,Nat.reduceSub,Array.replicate_succ,Array.replicate_zero,List.push_toArray,List.append_toArray,List.nil_append,List.cons_append]
 gi_upto_region 2 with fail
 rw[E.out]
 generalize (w.alloc (.cells #[Px yb] 130)).setCell ⟨yb,13,none⟩ (I ((s.now+m:Nat):Int))=t at *
 have C:Sl t 210 1 (.slice M zs.length d) zs.length ((zs.map Prod.fst).map ptr):=by
  have:=o.out.rest.train.row
  rw[y_,<-T.out]
  exact this
 have ae:t.cell? ⟨yb,11,none⟩=some (.slice M zs.length d):=by rw[<-T.out];exact o.out.is.box.cell (i:=11) rfl
 have b1:=Q.out.c 0 (Px yb)
 have u:=hd C
 have A:Hid (Bl t (t.alloc (.cells #[.slice M zs.length d] 195))):=af _ _
 clear b0 Y ah C
 gi_wp2_with (refine⟨trivial,?_⟩;gi_at_call 147;refine(callsIn_wide.2 (im yb M zs.length d t ae)).mono ?_;rintro e w' ⟨rfl,rfl⟩)
 refine wpIn_rangeFunc_ownG (α:=Pt (zs.map Prod.fst)) (n:=3) (F:=Fence.wide) rfl (by decide) (gf:=223) (lb:=#[Px t.heap.size]) rfl trivial (enters_of func223 (by kernel_rfl) rfl)
  (fR Fence.wide 2 trivial rfl (by decide) t.heap.size (.slice M zs.length d) (zs.map Prod.fst) (by rw[V];omega) (t.alloc (.cells #[.slice M zs.length d] 195)) (by simp) (by simp) (by rw[V];exact u.out.mk _)) iP (jC λg hg=>h_ (u.out.lt hg) A.out.size) (n_ _ _) (λ_=>rfl)
  (λb W=>bP t W S (s.top n0) zs (bN (s.now+m)) (b.map Subtype.val)) (λ_ _ _=>False) (bP.own A.out.size) (λ_ _ _ _ _ hs _ _=>hs) (bP.start o.out.rest.train.segs A.out)
  (λy=>{tmps:=#[Px yb,I m,Px w.heap.size,undef,Px y.1,Px yb,Px yb,.pointer (some ⟨yb,13,none⟩),I s.now,I m,I ((s.now:Int)+(m:Int)),Px yb,.pointer (some ⟨yb,13,none⟩),Px yb,Px yb,.pointer (some ⟨yb,11,none⟩),.func (.func 223) #[] #[Px t.heap.size],Px y.1,undef,undef,undef,undef,undef,undef,undef,undef,undef,undef,undef,undef,undef,undef,undef,undef,undef,undef,undef,undef,undef],defers:=[]}) ?assign ?body ?done ?stop
 case assign=>
  intro l y W K Z
  unfold ptr
  gi_wp2
  exact Z
 case body=>
  rintro l b ⟨p,hp⟩ W B _
  obtain⟨⟨r,y⟩,hz,rfl⟩:=q_.1 hp
  obtain⟨cv,jv,cl,a⟩:=B.2 (r,y) hz
  have H:=HF.out (r,y) hz
  have v:(if r∈b.map Subtype.val then bN (s.now+m) y else y)=bN (s.now+m) (if r∈b.map Subtype.val then bN (s.now+m) y else y)->bP t W S (s.top n0) zs (bN (s.now+m)) ((b++[(⟨r,hp⟩:Pt (zs.map Prod.fst))]).map Subtype.val):=λe=>by
   have:=B.same o.out.rest.train.nd hz (by rw[e];split<;>first|exact lK _ _|rfl)
   simpa using this
  have aj:bN (s.now+m) (if r∈b.map Subtype.val then bN (s.now+m) y else y)=bN (s.now+m) y:=by split<;>first|exact lK _ _|rfl
  have al:(if r∈b.map Subtype.val then bN (s.now+m) y else y).fails<1048576000:=by
   have h1:y.fails<1000:=H.1
   have h2:(bN (s.now+m) y).fails<=y.fails+1:=by
    unfold bN Sm.ends
    split<;>simp
   split<;>omega
  have am:∀j,(if r∈b.map Subtype.val then bN (s.now+m) y else y).job=some j->j.til<1048577000:=by
   split
   ·intro j hj
    unfold bN at hj
    split at hj
    ·rw[Sm.ends_job] at hj;cases hj
    exact H.2 j hj
   exact H.2
  have ad:Hid (∀W',ai W W' (λk=>k=r)->dt W' S (s.top n0) (r,bN (s.now+m) y)->bP t W' S (s.top n0) zs (bN (s.now+m)) ((b++[(⟨r,hp⟩:Pt (zs.map Prod.fst))]).map Subtype.val)):=λW' J hS=>by
   have:=B.step o.out.rest.train.nd hz J hS
   simpa using this
  have Y:W.cell? ⟨yb,13,none⟩=some (I ((s.now+m:Nat):Int)):=(B.1.bx o.out.is.box (by decide)).cell (i:=13) rfl
  have b2:W.cell? ⟨w.heap.size,0,none⟩=some (Px yb):=(B.1.bx Q.out (by decide)).cell (i:=0) rfl
  have HE:=hd B
  simp only at a
  generalize (if r∈b.map Subtype.val then bN (s.now+m) y else y)=P at *
  have c3:=a.box.c 3 jv
  have R:=hd a
  clear B
  cases ej:P.job with
  |none=>
   have ag:jv=.pointer none:=by have:=a.job;rw[ej] at this;exact this
   subst ag
   clear a
   have Hs:=v (by rw[lJ ej])
   refine wpIn_block (wpIn_seq (bY rfl (by kernel_rfl) rfl ?_))
   repeat (first|go_big_quiet_step (fail)|quiet_step (fail))
   refine wpQuiet_nil ?_
   rintro _ ⟨L,rfl⟩
   show Code.wpIn _ _ _ _ _ _ _
   gi_wp2
   exact⟨fS _ _,λ_ _=>rfl,Hs.drewN L⟩
  |some j=>
   obtain⟨jb,jt,an,rfl,hJ,-,-,-,-,-⟩:gJ W S (s.top n0) jv (some j):=ej▸a.job
   have j1:=hJ.cell (i:=1) rfl
   unfold ptr at c3
   by_cases hdue:j.til<=s.now+m
   ·have hd:decide ((j.til:Int)<=((s.now+m:Nat):Int))=true:=by rw[decide_eq_true_iff];omega
    clear a
    refine wpIn_block (wpIn_seq (bY rfl (by kernel_rfl) rfl ?_))
    repeat (first|go_big_quiet_step (fail)|quiet_step (fail))
    refine wpQuiet_nil ?_
    rintro _ ⟨L,rfl⟩
    show Code.wpIn _ _ _ _ _ _ _
    gi_wp2_with (refine⟨trivial,?_⟩;gi_at_call 119;refine(dh _ _ (lI r P.fails P.by_ cv (ptr jb) (W.drewN L) R.out.box al)).mono ?_;rintro e w' ⟨rfl,aa,ab⟩)
    have J:ai W w' (λk=>k=r):=ai.trans (⟨rfl,rfl,rfl,b_ _,λ_ _ _=>rfl⟩:ai W (W.drewN L) (λk=>k=r)) ab λ_ h=>.inl h
    have hT:=R.out.box.ty
    refine⟨jE J hT (by decide),p6 J hT (HE.out.1.sl u.out (by decide)),ad.out w' J ?_⟩
    have O:ak W w' S [240]:=ak.mk J λk _ e=>by
     subst e
     exact⟨R.out.own,240,by simp,hT⟩
    have e2:bN (s.now+m) P={P with fails:=P.fails+1,job:=none}:=by
     unfold bN
     rw[if_pos ((Sm.due_iff _ _).2 ⟨j,ej,hdue⟩)];rfl
    rw[<-aj,e2]
    exact⟨cv,.pointer none,cl,aa,R.out.chs.keptT O.k (λ_ h=>h) (by decide) (by decide),rfl,R.out.own⟩
   have hd:decide ((j.til:Int)<=((s.now+m:Nat):Int))=false:=by rw[decide_eq_false_iff_not];omega
   have Hs:=v (by unfold bN;rw[if_neg];rw[Sm.due_iff];rintro⟨j',e,h⟩;rw[ej] at e;cases e;exact hdue h)
   clear a
   refine wpIn_block (wpIn_seq (bY rfl (by kernel_rfl) rfl ?_))
   repeat (first|go_big_quiet_step (fail)|quiet_step (fail))
   refine wpQuiet_nil ?_
   rintro _ ⟨L,rfl⟩
   show Code.wpIn _ _ _ _ _ _ _
   gi_wp2
   exact⟨fS _ _,λ_ _=>rfl,Hs.drewN L⟩
 case done=>
  rintro D ys W hD rfl B Z
  gi_wp2
  refine⟨by simp,.inl ⟨_,_,rfl,run_takeDeferred Z,?_⟩⟩
  have G:=(bP.own (ps:=zs.map Prod.fst) (S:=S) (N:=s.top n0) (zs:=zs) (f:=bN (s.now+m)) (w:=t) A.out.size).putObj (.deferred none) B hD Z rfl
  rw[List.attach_map_subtype_val] at G
  exact⟨_,results_none rfl _ _ _,rfl,⟨_,G.done o.out⟩,ak.mono (ak.trans ac.out G.1 (aE.old w)) (λ_ h=>h) (by decide)⟩
 rintro D c b W _ _ h _
 exact h.elim
end
section
open Go.Shelf
variable{c:Cfg}{zs:List (Nat×Sm)}{q:List Pw}{tl:List Tp}{n0 p sb yb:Nat}{f:Sm}{s:Ts}{ov qv:Value}{x:Xt}
attribute [local go_sem] Oper.semAt_some
def Ts.blame0 (s:Ts)(f:Sm)(m:List Sm):Ts:=if 1<f.l.length then s.split f ((f.l.length+1)/2) m else {s with outs:=s.outs++(f.l.take 1).map λx=>(x.1,2),segs:=m}
theorem Sm.renew_new (l:List Cg):(Sm.new l).renew=Sm.new l:=rfl
theorem Ts.blame_eq (s:Ts)(f:Sm)(m:List Sm):s.blame f m={s.blame0 f m with segs:=(s.blame0 f m).segs.map Sm.renew}:=by
 unfold Ts.blame Ts.blame0;split<;>simp[Ts.split,Sm.renew_new]
theorem Cn (h:aU w S yb mb n0 c s q sb qv ov x tl ((p,f)::zs))(hf:f.l≠[])(hl:zs.length+f.l.length<=8)(ho:s.outs.length<1048576000)(ha:s.acked<=s.outs.length):
 c_ 214 #[ptr yb,ptr p] w λe w'=>e=.returned (.tuple #[])/\(∃ov' tv' zs',aU w' (aE S w) yb mb n0 c (s.blame f (zs.map Prod.snd)) q sb qv ov' {x with tv:=tv'} tl zs')/\ak w w' S [201,99,210,240]:=by
 rw[Ts.blame_eq]
 obtain⟨y,l,E⟩:∃y l,f.l=y::l:=by
  cases hq:f.l with
  |nil=>exact absurd hq hf
  |cons y l=>exact⟨y,l,rfl⟩
 obtain⟨cv,jv,cl,d⟩:=h.rest.train.segs (p,f) (by simp)
 have C:cl.length=f.l.length:=by rw[<-d.chs.fst,d_]
 have ar:0<f.l.length:=by rw[E];simp
 obtain⟨g,U,Y,rfl,ap,an⟩:=d.chs.row.addr (by omega)
 have c0:w.cell? ⟨p,0,none⟩=some (s_ g U f.l.length Y):=by rw[<-C];exact d.box.cell (i:=0) rfl
 have d0:w.cell? ⟨g,U,none⟩=some (I y.1):=by
  have H:=d.chs.fst
  cases cl with
  |nil=>simp at C;omega
  |cons a b=>
   have:a.1=y:=by
    rw[show (p,f).2.l=y::l from E,C_,List.cons.injEq] at H
    exact H.1
   rw[<-this]
   exact d.chs.row.cell (j:=0) rfl
 rw[C] at ap
 have z:=yf y.1 2 h ho ha
 have hS:1<f.l.length->_:=λhh=>yg (k:=(f.l.length+1)/2) h (by omega) (by omega) (by omega) (by omega)
 have L:Hid (s.blame0 f (zs.map Prod.snd)=if 1<f.l.length then s.split f ((f.l.length+1)/2) (zs.map Prod.snd) else {s with outs:=s.outs++[(y.1,2)],segs:=zs.map Prod.snd}):=by
  show _=_
  unfold Ts.blame0
  rw[E];rfl
 unfold maxLen at an
 clear h d hf E C
 generalize y.1=id at *
 generalize f.l.length=v at *
 unfold ptr
 refine(callsIn_wide (n:=3)).1 ?_
 refine callsIn_of_wp_marks func214 rfl trivial ?_ rfl
 simp only[ntmps214,List.size_toArray,List.length_cons,List.length_nil,Nat.reduceAdd,Nat.reduceSub,Array.replicate_succ,Array.replicate_zero,List.push_toArray,List.append_toArray,List.nil_append,List.cons_append]
 gi_upto_if 12 with fail
 gi_cut [] from 12 (λwz=>Hid (∃ov' tv' zs',aU wz (aE S w) yb mb n0 c (s.blame0 f (zs.map Prod.snd)) q sb qv ov' {x with tv:=tv'} tl zs'/\zs'.length<=8/\ak w wz S [201,99,210]))
 case first=>
  by_cases hh:1<v
  ·have R:=hS hh
   have q1:(v:Int)>1:=by omega
   have q2:((v:Int)+1)/2=(((v+1)/2:Nat):Int):=by omega
   rw[<-q2] at R
   clear hS z q2
   gi_wp2_with fail
   generalize ((v:Int)+1)/2=kk at *
   refine⟨trivial,?_⟩
   refine(callsIn_wide.2 R).mono ?_
   rintro e w' ⟨rfl,⟨tv',zs',ac,av⟩,Z⟩
   have HR:Hid (∃ov' tv' zs',aU w' (aE S w) yb mb n0 c (s.blame0 f (zs.map Prod.snd)) q sb qv ov' {x with tv:=tv'} tl zs'/\zs'.length<=8/\ak w w' S [201,99,210]):=by
    refine⟨ov,tv',zs',?_,by omega,ak.mono Z (λ_ h=>h) (by decide)⟩
    rw[L.out,if_pos hh]
    exact ac
   clear ac Z R
   gi_wp2_with fail
   gi_meet
   case rel=>exact HR
  have q1:¬(v:Int)>1:=by omega
  clear hS
  gi_wp2_with (refine⟨trivial,?_⟩;gi_at_call 170;refine(callsIn_wide.2 z).mono ?_;rintro e w1 ⟨rfl,⟨ai,ad⟩,aa⟩)
  have hD:=p5 ad
  have M:=hd aa
  clear z ad aa c0 d0
  gi_wp2_with (refine⟨trivial,?_⟩;gi_at_call 244;refine(callsIn_wide.2 hD).mono ?_;rintro e w2 ⟨rfl,⟨aq,ae⟩,ab⟩)
  have HR:Hid (∃ov' tv' zs',aU w2 (aE S w) yb mb n0 c (s.blame0 f (zs.map Prod.snd)) q sb qv ov' {x with tv:=tv'} tl zs'/\zs'.length<=8/\ak w w2 S [201,99,210]):=by
   refine⟨ai,aq,zs,?_,by omega,ak.mono (ak.trans M.out ab λk hk=>hk) (λ_ h=>h) (by decide)⟩
   rw[L.out,if_neg hh]
   exact ae
  clear ae ab hD
  gi_wp2_with fail
  gi_meet
  case rel=>exact HR
 obtain⟨ai,aw,m,o,au,G⟩:=hcut.out
 obtain⟨V,r,T⟩:=o.rest.train.row.form
 generalize ah:s.blame0 f (zs.map Prod.snd)=s1 at o
 have al:=hd ah
 clear ah
 have am:wc.cell? ⟨yb,11,none⟩=some (.slice V m.length r):=by rw[<-T];exact o.is.box.cell (i:=11) rfl
 have ag:(m.map Prod.fst).length=m.length:=d_ _
 have J:Sl wc 210 1 (.slice V m.length r) m.length ((m.map Prod.fst).map ptr):=by
  have:=o.rest.train.row
  rw[y_,<-T]
  exact this
 have t:=hd J
 have B:Hid (Bl wc (wc.alloc (.cells #[.slice V m.length r] 195))):=af _ _
 have P:=hd o
 have M:=hd G
 clear J o G T z hS L hcut c0 d0
 gi_wp2_with (refine⟨trivial,?_⟩;gi_at_call 147;refine(callsIn_wide.2 (im yb V m.length r wc am)).mono ?_;rintro e w' ⟨rfl,rfl⟩)
 refine wpIn_rangeFunc_ownG (α:=Pt (m.map Prod.fst)) (n:=3) (F:=Fence.wide) rfl (by decide) (gf:=223) (lb:=#[Px wc.heap.size]) rfl trivial (enters_of func223 (by kernel_rfl) rfl)
  (fR Fence.wide 2 trivial rfl (by decide) wc.heap.size (.slice V m.length r) (m.map Prod.fst) (by rw[ag];omega) (wc.alloc (.cells #[.slice V m.length r] 195)) (by simp) (by simp) (by rw[ag];exact t.out.mk _)) iP (jC λg hg=>h_ (t.out.lt hg) B.out.size) (n_ _ _) (λ_=>rfl)
  (λu W=>bP wc W (aE S w) (s1.top n0) m Sm.renew (u.map Subtype.val)) (λ_ _ _=>False) (bP.own B.out.size) (λ_ _ _ _ _ hs _ _=>hs) (bP.start P.out.rest.train.segs B.out)
  (λy=>{tmps:=#[Px yb,Px p,undef,undef,I v,Px y.1,Px p,Px p,Px p,s_ g U v Y,I v,I v,u12,u13,u14,u15,u16,u17,u18,u19,u20,u21,u22,u23,u24,u25,u26,u27,u28,u29,u30,u31,Px yb,Px yb,.pointer (some ⟨yb,11,none⟩),.func (.func 223) #[] #[Px wc.heap.size],Px y.1,u37,u38],defers:=[]}) ?assign ?body ?done ?stop
 case assign=>
  intro l y W K hK
  unfold ptr
  gi_wp2
  exact hK
 case body=>
  rintro l u ⟨p,hp⟩ W z _
  obtain⟨⟨p',y⟩,hz,rfl⟩:=q_.1 hp
  obtain⟨cv,jv,cl,d⟩:=z.2 (p',y) hz
  have ao:(if p'∈u.map Subtype.val then y.renew else y).renew=y.renew:=by split<;>rfl
  have HE:=hd z
  simp only at d
  generalize (if p'∈u.map Subtype.val then y.renew else y)=y' at *
  have X:=hd d
  obtain⟨ca,cm,cc,rfl⟩:=yi d.chs.row
  clear z d
  gi_wp2_with (refine⟨trivial,?_⟩;gi_at_call 246;refine(dh _ _ (yh p' y'.fails y'.by_ ca cm cc jv W X.out.box)).mono ?_;rintro e w' ⟨rfl,aj,A⟩)
  have hT:=X.out.box.ty
  refine⟨jE A hT (by decide),p6 A hT (HE.out.1.sl t.out (by decide)),?_⟩
  have O:ak W w' (aE S w) [240]:=ak.mk A λk _ e=>by
   subst e
   exact⟨X.out.own,240,by simp,hT⟩
  have:=HE.out.step P.out.rest.train.nd hz A (by
   rw[<-ao]
   exact⟨_,.pointer none,cl,aj,X.out.chs.keptT O.k (λ_ h=>h) (by decide) (by decide),rfl,X.out.own⟩)
  simpa using this
 case done=>
  rintro D ys W hD rfl z hK
  gi_wp2
  refine⟨by simp,.inl ⟨_,_,rfl,run_takeDeferred hK,?_⟩⟩
  have Q:=(bP.own (ps:=m.map Prod.fst) (S:=aE S w) (N:=s1.top n0) (zs:=m) (f:=Sm.renew) (w:=wc) B.out.size).putObj (.deferred none) z hD hK rfl
  rw[List.attach_map_subtype_val] at Q
  obtain rfl:=al.out
  exact⟨_,results_none rfl _ _ _,rfl,⟨_,_,_,Q.done P.out⟩,ak.mono (ak.trans M.out Q.1 λk hk=>hk) (λ_ h=>h) (by decide)⟩
 rintro D c u W _ _ h _
 exact h.elim
end
section
open Go.Shelf
variable{cs:Array Value}{zs:List (Nat×Sm)}{ps:List Nat}{B N b n0 p yb:Nat}{row:Option Nat}{α:Type}{t:TypeId}{W W' w1:World}
attribute [local go_sem] Oper.semAt_some
theorem oF {fn:Func}{u ty tu:Nat}(h:fn.results=#[.cell p ty,.cell u tu])(tmps:Array Value)(P:Program)(w:World):
 (results fn tmps).run P w=((asAddr (tmps.getD p undef)).run P w).andThen λa w₁=>((loadVar ty a).run P w₁).andThen λv w₂=>((asAddr (tmps.getD u undef)).run P w₂).andThen λb w₃=>((loadVar tu b).run P w₃).andThen λv' w₄=>.ok (.tuple #[v,v']) w₄:=by
 simp only[results,h];simp
theorem oX {z z':Nat×Sm}:∀{l:List (Nat×Sm)},(l.map Prod.fst).Nodup->z∈l->z'∈l->z.1=z'.1->z=z'
 |[],_,h,_,_=>by cases h
 |a::l,hn,h1,h2,e=>by
  rw[C_,List.nodup_cons] at hn
  rcases R_.1 h1 with rfl|h3
  ·rcases R_.1 h2 with h4|h4
   ·exact h4.symm
   exact absurd (q_.2 ⟨_,h4,e.symm⟩) hn.1
  rcases R_.1 h2 with rfl|h4
  ·exact absurd (q_.2 ⟨_,h3,e⟩) hn.1
  exact oX hn.2 h3 h4 e
theorem mZ {d:Nat}{t:Bool}(h4:Bx W b 210 #[v])(h5:Bx W d 4 #[.bool t])(tmps:Array Value)(e4:tmps.getD 4 undef=Px b)(e5:tmps.getD 5 undef=Px d):
 (results Tryz.f118 tmps).run prog W=.ok (.tuple #[v,.bool t]) W:=by
 have a:=h4.cell (i:=0) rfl;have c:=h5.cell (i:=0) rfl;rw[oF (p:=4) (u:=5) (ty:=210) (tu:=4) rfl,e4,e5];simp[a,c,go_sem,loadVar]
def Sm.runsI (x:Sm)(num:Int):Bool:=match x.job with|some j=>(j.num:Int)==num|none=>false
theorem Sm.runsI_nat (x:Sm)(n:Nat):x.runsI n=x.runs n:=by
 unfold Sm.runsI Sm.runs;cases x.job with
 |none=>rfl
 |some j=>
  show ((j.num:Int)==(n:Int))=(j.num==n);rw[Bool.eq_iff_iff,beq_iff_eq,beq_iff_eq];omega
def p7 (w W:World)(zs:List (Nat×Sm))(num:Int)(c:Code):Prop:=c=.ret/\∃z∈zs,z.2.runsI num=true/\Bl w W/\Bx W (w.heap.size+1) 210 #[ptr z.1]/\Bx W (w.heap.size+1+1) 4 #[.bool true]
theorem gx (h:Bx W p t cs)(hg:W.grownBy W' row)(hr:∀r,row=some r->B<=r)(hp:p<B):Bx W' p t cs:=(hg.block p h.lt λe=>by have:=hr p e.symm;omega).trans h
theorem eH (h:Below N w W)(hN:N<=w.heap.size)(hg:W.grownBy W' row)(hr:∀r,row=some r->B<=r)(hB:N<=B):Below N w W':=
 ⟨hg.os.trans h.os,hg.tape.trans h.tape,hg.output.trans h.output,e_ h.size hg.size,λk hk=>(hg.block k (by have:=h.size;omega) λe=>by have:=hr k e.symm;omega).trans (h.block k hk)⟩
theorem p7.own {num:Int}(hB:w.heap.size+3<=B)(c:Code):OwnFrom B (λ(_:List α) W=>p7 w W zs num c):=λs W W' row hs hg hr=>by
 obtain⟨rfl,z,g,a,f,b,d⟩:=hs
 exact⟨rfl,z,g,a,eH f (b_ _) hg (λr e=>(hr r e).1) (by omega),gx b hg (λr e=>(hr r e).1) (by omega),gx d hg (λr e=>(hr r e).1) (by omega)⟩
def m7 (w1 W:World)(zs:List (Nat×Sm))(num:Int)(pre:List Nat):Prop:=Bl w1 W/\∀z∈zs,z.1∈pre->z.2.runsI num=false
theorem m7.own {num:Int}(hB:w1.heap.size<=B):OwnFrom B (λ(pre:List (Pt ps)) W=>m7 w1 W zs num (pre.map Subtype.val)):=λ_ _ _ _ hs hg hr=>
 ⟨eH hs.1 (b_ _) hg (λr e=>(hr r e).1) hB,hs.2⟩
theorem rm (num:Int){c:Cfg}{s:Ts}{w:World}{q:List Pw}{sb:Nat}{qv ov:Value}{x:Xt}{tl:List Tp}{zs:List (Nat×Sm)}(h:aU w S yb mb n0 c s q sb qv ov x tl zs)(hl:zs.length<=8):
 c_ 118 #[ptr yb,I num] w λe w'=>Bl w w'/\((∃z∈zs,z.2.runsI num=true/\e=.returned (.tuple #[ptr z.1,.bool true]))\/((∀z∈zs,z.2.runsI num=false)/\e=.returned (.tuple #[.pointer none,.bool false]))):=by
 obtain⟨Q,a,T⟩:=h.rest.train.row.form
 have ab:(zs.map Prod.fst).length=zs.length:=d_ _
 have O:Sl w 210 1 (.slice Q zs.length a) zs.length ((zs.map Prod.fst).map ptr):=by
  have:=h.rest.train.row
  rw[y_,<-T]
  exact this
 have aa:w.cell? ⟨yb,11,none⟩=some (.slice Q zs.length a):=by rw[<-T];exact h.is.box.cell (i:=11) rfl
 have al:=h.is.box.lt
 have HY:=hd h
 have Y:=hd O
 have C:Hid (Bl w (((w.alloc (.cells #[I num] 3)).alloc (.cells #[.pointer none] 210)).alloc (.cells #[.bool false] 4))):=((af w _).trans ((af _ _).mono (by simp))).trans ((af _ _).mono (by simp;omega))
 have Z:Hid (Bx (((w.alloc (.cells #[I num] 3)).alloc (.cells #[.pointer none] 210)).alloc (.cells #[.bool false] 4)) w.heap.size 3 #[I num]):=((Bx.new _ _ _).mk _).mk _
 have J:Hid (Bx (((w.alloc (.cells #[I num] 3)).alloc (.cells #[.pointer none] 210)).alloc (.cells #[.bool false] 4)) (w.heap.size+1) 210 #[.pointer none]):=by
  have:=(Bx.new (w.alloc (.cells #[I num] 3)) #[.pointer none] 210).mk (.cells #[.bool false] 4)
  rwa [World.size_alloc] at this
 have L:Hid (Bx (((w.alloc (.cells #[I num] 3)).alloc (.cells #[.pointer none] 210)).alloc (.cells #[.bool false] 4)) (w.heap.size+1+1) 4 #[.bool false]):=by
  have:=Bx.new ((w.alloc (.cells #[I num] 3)).alloc (.cells #[.pointer none] 210)) #[.bool false] 4
  rwa [World.size_alloc,World.size_alloc] at this
 have E:Hid ((((w.alloc (.cells #[I num] 3)).alloc (.cells #[.pointer none] 210)).alloc (.cells #[.bool false] 4)).heap.size=w.heap.size+3):=by
  show _=_
  simp
 clear h T O
 unfold ptr
 refine(callsIn_wide (n:=3)).1 ?_
 refine callsIn_of_wp_marks func118 rfl trivial ?_ rfl
 simp only[ntmps118,List.size_toArray,List.length_cons,List.length_nil,Nat.reduceAdd,Nat.reduceSub,Array.replicate_succ,Array.replicate_zero,List.push_toArray,List.append_toArray,List.nil_append,List.cons_append]
 gi_upto_region 1 with fail
 generalize ((w.alloc (.cells #[I num] 3)).alloc (.cells #[.pointer none] 210)).alloc (.cells #[.bool false] 4)=v at *
 have ac:v.cell? ⟨yb,11,none⟩=some (.slice Q zs.length a):=(C.out.cell (p:=⟨yb,11,none⟩) al).trans aa
 have X:Hid (Sl v 210 1 (.slice Q zs.length a) zs.length ((zs.map Prod.fst).map ptr)):=Y.out.later C.out
 have u:Hid (Bl v (v.alloc (.cells #[.slice Q zs.length a] 195))):=af _ _
 clear aa
 gi_wp2_with (refine⟨trivial,?_⟩;gi_at_call 147;refine(callsIn_wide.2 (im yb Q zs.length a v ac)).mono ?_;rintro e w' ⟨rfl,rfl⟩)
 refine wpIn_rangeFunc_ownG (α:=Pt (zs.map Prod.fst)) (n:=3) (F:=Fence.wide) rfl (by decide) (gf:=223) (lb:=#[Px v.heap.size]) rfl trivial (enters_of func223 (by kernel_rfl) rfl)
  (fR Fence.wide 2 trivial rfl (by decide) v.heap.size (.slice Q zs.length a) (zs.map Prod.fst) (by rw[ab];omega) (v.alloc (.cells #[.slice Q zs.length a] 195)) (by simp) (by simp) (by rw[ab];exact X.out.mk _)) iP (jC λg t=>h_ (X.out.lt t) u.out.size) (n_ _ _) (λ_=>rfl)
  (λM W=>m7 v W zs num (M.map Subtype.val)) (λc _ W=>p7 w W zs num c) (m7.own u.out.size) (λc=>p7.own (by have:=E.out;have:=u.out.size;omega) c) ⟨u.out,λ_ _ h=>by simp at h⟩
  (λy=>{tmps:=#[Px yb,I num,undef,Px w.heap.size,.pointer (some ⟨w.heap.size+1,0,none⟩),.pointer (some ⟨w.heap.size+1+1,0,none⟩),Px y.1,Px yb,Px yb,.pointer (some ⟨yb,11,none⟩),.func (.func 223) #[] #[Px v.heap.size],Px y.1,undef,undef,undef,undef,undef,undef,undef,undef,undef,undef,undef,undef,undef,undef,undef,undef,undef],defers:=[]}) ?assign ?body ?done ?stop
 case assign=>
  intro l y W K U
  unfold ptr
  gi_wp2
  exact U
 case body=>
  rintro l M ⟨p,hp⟩ W A _
  obtain⟨⟨H,y⟩,P,rfl⟩:=q_.1 hp
  obtain⟨cv,jv,cl,f⟩:=HY.out.rest.train.segs (H,y) P
  have hW:Bl w W:=C.out.trans (A.1.mono C.out.size)
  have R:Bx W H 240 (cz cv y.fails y.by_ jv):=(hW.block _ f.box.lt).trans f.box
  have c3:=R.c 3 jv
  have ao:w.heap.size<v.heap.size:=by have:=E.out;omega
  have ak:Bx W w.heap.size 3 #[I num]:=(A.1.block _ Z.out.lt).trans Z.out
  have ap:=ak.cell (i:=0) rfl
  have b:Hid (Bx W (w.heap.size+1) 210 #[.pointer none]):=(A.1.block _ J.out.lt).trans J.out
  have d:Hid (Bx W (w.heap.size+1+1) 4 #[.bool false]):=(A.1.block _ L.out.lt).trans L.out
  have N:=hd A
  have HW:=hd hW
  have HN:Hid (y.runsI num=false->∀n,m7 v (W.drewN n) zs num ((M++[(⟨H,hp⟩:Pt (zs.map Prod.fst))]).map Subtype.val)):=λhr n=>by
   refine⟨⟨N.out.1.os,N.out.1.tape,N.out.1.output,N.out.1.size,N.out.1.block⟩,λz hz' V=>?_⟩
   rw[w_,E_] at V
   rcases V with V|V
   ·exact N.out.2 z hz' V
   have e:z.1=H:=by simpa using V
   have:=oX HY.out.rest.train.nd hz' P e
   subst this
   exact hr
  clear A hW
  cases ej:y.job with
  |none=>
   have ad:jv=.pointer none:=by have:=f.job;rw[ej] at this;exact this
   subst ad
   have Hs:=HN.out (by unfold Sm.runsI;rw[ej])
   clear f R
   refine wpIn_block (wpIn_seq (bY rfl (by kernel_rfl) rfl ?_))
   repeat (first|go_big_quiet_step (fail)|quiet_step (fail))
   refine wpQuiet_nil ?_
   rintro _ ⟨G,rfl⟩
   show Code.wpIn _ _ _ _ _ _ _
   gi_wp2
   exact⟨fS _ _,λ_ _=>rfl,Hs G⟩
  |some j=>
   obtain⟨jb,jt,aq,rfl,hJ,-,-,-,-,-⟩:gJ w S (s.top n0) jv (some j):=ej▸f.job
   have ah:Bx W jb 242 #[I j.num,I j.til,jt]:=(HW.out.block _ hJ.lt).trans hJ
   have j0:=ah.cell (i:=0) rfl
   unfold ptr at c3
   clear f R
   by_cases hdue:(j.num:Int)=num
   ·subst hdue
    have hd:decide ((j.num:Int)=(j.num:Int))=true:=by simp
    have f4:=b.out.fr 0
    have f5:=d.out.fr 0
    have x4:=b.out.cell (i:=0) rfl
    have x5:=d.out.cell (i:=0) rfl
    refine wpIn_block (wpIn_seq (bY rfl (by kernel_rfl) rfl ?_))
    repeat (first|go_big_quiet_step (fail)|quiet_step (fail))
    refine wpQuiet_nil ?_
    rintro _ ⟨G,rfl⟩
    show Code.wpIn _ _ _ _ _ _ _
    gi_wp2
    have t:ai W (((W.drewN G).setCell ⟨w.heap.size+1,0,none⟩ (Px H)).setCell ⟨w.heap.size+1+1,0,none⟩ (.bool true)) (λk=>w.heap.size<=k/\k<v.heap.size):=by
     have:=E.out
     exact ai.set (ai.set (⟨rfl,rfl,rfl,b_ _,λ_ _ _=>rfl⟩:ai W (W.drewN G) _) (.inl ⟨Nat.le_succ _,by show w.heap.size+1<_;omega⟩)) (.inl ⟨by show _<=w.heap.size+1+1;omega,by show w.heap.size+1+1<_;omega⟩)
    have h4:Bx (((W.drewN G).setCell ⟨w.heap.size+1,0,none⟩ (Px H)).setCell ⟨w.heap.size+1+1,0,none⟩ (.bool true)) (w.heap.size+1) 210 #[ptr H]:=by
     have e:Bx (W.drewN G) (w.heap.size+1) 210 #[.pointer none]:=b.out
     exact Bx.other (Bx.set e 0 (ptr H)) (by omega) 0 _
    have h5:Bx (((W.drewN G).setCell ⟨w.heap.size+1,0,none⟩ (Px H)).setCell ⟨w.heap.size+1+1,0,none⟩ (.bool true)) (w.heap.size+1+1) 4 #[.bool true]:=by
     have e:Bx (W.drewN G) (w.heap.size+1+1) 4 #[.bool false]:=d.out
     exact Bx.set (Bx.other e (by omega) 0 _) 0 (.bool true)
    refine⟨⟨t.size,λk o hB hk ho=>(t.block k (j_.1 hk).1 λe=>?_).trans hk⟩,rfl,(H,y),P,by unfold Sm.runsI;rw[ej];simp,?_,h4,h5⟩
    ·have:=u.out.size
     have:=e.2
     omega
    have m:Bl w W:=HW.out
    exact⟨t.os.trans m.os,t.tape.trans m.tape,t.output.trans m.output,e_ m.size t.size,λk hk=>(t.block k (by have:=m.size;omega) λe=>by have:=e.1;omega).trans (m.block k hk)⟩
   have hd:decide ((j.num:Int)=num)=false:=by rw[decide_eq_false_iff_not];omega
   have Hs:=HN.out (by unfold Sm.runsI;rw[ej];simpa using hdue)
   refine wpIn_block (wpIn_seq (bY rfl (by kernel_rfl) rfl ?_))
   repeat (first|go_big_quiet_step (fail)|quiet_step (fail))
   refine wpQuiet_nil ?_
   rintro _ ⟨G,rfl⟩
   show Code.wpIn _ _ _ _ _ _ _
   gi_wp2
   exact⟨fS _ _,λ_ _=>rfl,Hs G⟩
 case done=>
  rintro D ys W hD rfl A U
  have b:Hid (Bx W (w.heap.size+1) 210 #[.pointer none]):=(A.1.block _ J.out.lt).trans J.out
  have d:Hid (Bx W (w.heap.size+1+1) 4 #[.bool false]):=(A.1.block _ L.out.lt).trans L.out
  have f4:=b.out.fr 0
  have f5:=d.out.fr 0
  have x4:=b.out.cell (i:=0) rfl
  have x5:=d.out.cell (i:=0) rfl
  have N:=hd A
  clear A
  gi_wp2
  have ag:v.heap.size<=D:=by
   have:=u.out.size
   omega
  have an:=E.out
  have A:=N.out
  have t:ai W ((W.setCell ⟨w.heap.size+1,0,none⟩ (.pointer none)).setCell ⟨w.heap.size+1+1,0,none⟩ (.bool false)) (λk=>w.heap.size<=k/\k<v.heap.size):=
   ai.set (ai.set (ai.refl W _) (.inl ⟨Nat.le_succ _,by show w.heap.size+1<_;omega⟩)) (.inl ⟨by show _<=w.heap.size+1+1;omega,by show w.heap.size+1+1<_;omega⟩)
  have h4:Bx ((W.setCell ⟨w.heap.size+1,0,none⟩ (.pointer none)).setCell ⟨w.heap.size+1+1,0,none⟩ (.bool false)) (w.heap.size+1) 210 #[.pointer none]:=Bx.other (Bx.set b.out 0 (.pointer none)) (by omega) 0 _
  have h5:Bx ((W.setCell ⟨w.heap.size+1,0,none⟩ (.pointer none)).setCell ⟨w.heap.size+1+1,0,none⟩ (.bool false)) (w.heap.size+1+1) 4 #[.bool false]:=Bx.set (Bx.other d.out (by omega) 0 _) 0 (.bool false)
  have ae:D<W.heap.size:=(j_.1 U).1
  have aj:=(t.block D ae λe=>by have:=e.2;omega).trans U
  have m:Bl w ((W.setCell ⟨w.heap.size+1,0,none⟩ (.pointer none)).setCell ⟨w.heap.size+1+1,0,none⟩ (.bool false)):=by
   have m:=C.out.trans (A.1.mono C.out.size)
   exact⟨t.os.trans m.os,t.tape.trans m.tape,t.output.trans m.output,e_ m.size t.size,λk hk=>(t.block k (by have:=m.size;omega) λe=>by have:=e.1;omega).trans (m.block k hk)⟩
  generalize (W.setCell ⟨w.heap.size+1,0,none⟩ (.pointer none)).setCell ⟨w.heap.size+1+1,0,none⟩ (.bool false)=W2 at *
  refine⟨by simp,.inl ⟨_,_,rfl,run_takeDeferred aj,?_⟩⟩
  have g4:Bx (W2.putObj D (.deferred none)) (w.heap.size+1) 210 #[.pointer none]:=gx h4 (grownBy_putObj' W2 D _) (B:=D) (λr e=>by cases e;omega) (by omega)
  have g5:Bx (W2.putObj D (.deferred none)) (w.heap.size+1+1) 4 #[.bool false]:=gx h5 (grownBy_putObj' W2 D _) (B:=D) (λr e=>by cases e;omega) (by omega)
  exact⟨_,mZ g4 g5 _ rfl rfl,eH m (b_ _) (grownBy_putObj' W2 D _) (B:=D) (λr e=>by cases e;omega) (by omega),.inr ⟨λz P=>A.2 z P (by rw[List.attach_map_subtype_val];exact x_ P),rfl⟩⟩
 rintro D c M W hD _ h U
 obtain⟨rfl,z,P,am,m,h4,h5⟩:=h
 have ag:w.heap.size+3<=D:=by
  have:=E.out
  have:=u.out.size
  omega
 gi_wp2
 refine⟨by simp,.inl ⟨_,_,rfl,run_takeDeferred U,?_⟩⟩
 have g4:Bx (W.putObj D (.deferred none)) (w.heap.size+1) 210 #[ptr z.1]:=gx h4 (grownBy_putObj' W D _) (B:=D) (λr e=>by cases e;omega) (by omega)
 have g5:Bx (W.putObj D (.deferred none)) (w.heap.size+1+1) 4 #[.bool true]:=gx h5 (grownBy_putObj' W D _) (B:=D) (λr e=>by cases e;omega) (by omega)
 exact⟨_,mZ g4 g5 _ rfl rfl,eH m (b_ _) (grownBy_putObj' W D _) (B:=D) (λr e=>by cases e;omega) (by omega),.inl ⟨z,P,am,rfl⟩⟩
theorem AM (num:Nat){c:Cfg}{s:Ts}{w:World}{q:List Pw}{sb:Nat}{qv ov:Value}{x:Xt}{tl:List Tp}{zs:List (Nat×Sm)}(h:aU w S yb mb n0 c s q sb qv ov x tl zs)(hl:zs.length<=8):
 c_ 118 #[ptr yb,I num] w λe w'=>Bl w w'/\((∃z∈zs,z.2.runs num=true/\e=.returned (.tuple #[ptr z.1,.bool true]))\/((∀z∈zs,z.2.runs num=false)/\e=.returned (.tuple #[.pointer none,.bool false]))):=by
 have:=rm (num:Int) h hl;simp only[Sm.runsI_nat] at this;exact this
end
theorem kg:(prog.info? 3).map (λi=>(i.zero,i.size,i.bytes))=some (some (I 0),1,8):=by kernel_rfl
theorem dY.sl {l:List Cg}(h:dY w S cv l cl):∀y∈cl,bD y.2:=λy hy=>by
 obtain⟨a,b,e⟩:=(h.eds y hy).1.form
 exact⟨a,_,b,e⟩
theorem tF (p:Nat)(cs:Array Value)(cv:Value)(cl:List Cw)(w:World)(hB:Bx w p 240 cs)(h0:cs[0]? =some cv)(hS:Sl w 273 2 cv cl.length (cl.flatMap cC))(hsl:∀y∈cl,bD y.2)(hn:cl.length<=8):
 c_ 149 #[ptr p] w λe w'=>(∃v',e=.returned v'/\w'.ownsRow w.heap.size 3 1 v' cl.length (cl.map λy=>cI y.1.1))/\Bl w w':=by
 obtain⟨E,l,m,n,q⟩:=info_parts kg;obtain⟨L,r,rfl⟩:=hS.form;have B:=hB.cell h0;have f:=hd hS;have h:=hd hsl;clear hB h0 hS hsl;unfold ptr;go_enter func149,ntmps149;go_wp2_with fail;clear B;go_loopw [3,11] (λlv iv wr=>∃k:Nat,k<=cl.length/\iv=I k/\Hid (wr.ownsRow w.heap.size 3 1 lv k ((cl.take k).map λy=>cI y.1.1))/\Hid (Bl w wr)) (λ_ i _=>cl.length-(intOf i).toNat)
 case atStart=>exact⟨0,k_ _,rfl,B_ _ _ _ _,n_ _ _⟩
 obtain⟨k,O,rfl,d,a⟩:=hrel;by_cases hlk:k<cl.length
 ·obtain⟨g,c,C,D,_⟩:=f.out.addr (by omega);cases D
  obtain⟨s,v,t,x⟩:=h.out _ (i_ hlk);have M:wr.cell? ⟨g,c+k*2,none⟩=some (I cl[k].1.1):=ae a.out (f.out.cell (j:=k*2) (by rw[show k*2=k*2+0 from rfl,aq cC 2 (λ_=>rfl) cl k 0 hlk (by omega)];rfl))
  have N:wr.cell? ⟨g,c+k*2+1,none⟩=some (.slice s v t):=by
   have:=f.out.cell (j:=k*2+1) (u:=.slice s v t) (by rw[aq cC 2 (λ_=>rfl) cl k 1 hlk (by omega),<-x];rfl);rw[<-J_] at this;exact ae a.out this
  have A:Hid (((cl.take (k+1)).map λy=>cI y.1.1)=((cl.take k).map λy=>cI y.1.1)++[I cl[k].1.1]):=by
   show _=_;rw[g_ hlk,w_];rfl
  generalize cl[k].1.1=H at *;clear x;have F:Hid (k+1<=maxLen):=by show _<=_;unfold maxLen;omega
  have G:Hid ((k+1)*8<=140737488355328):=by show _<=_;omega
  have z:Hid (∀o o',w.heap.size<=((wr.alloc o).alloc o').heap.size):=λo o'=>by
   have:=a.out.size;show w.heap.size<=_;simp;omega
  go_wp2_with (at_builtin;refine wpList_append_own_at _ rfl (.tmp 15) (.tmp 18) _ rfl w.heap.size _ E _ 1 8 underlying56 l m n q rfl (by decide) u3 _ _ rfl (p_ (p_ d.out _) _) ⟨wr.heap.size+1,0,none⟩ 1 1 [I H] rfl rfl (jH wr _ _ _) (by simp[Value.oneCell']) F.out G.out (z.out _ _) ?_;intro v3 w3 hown3 hg3 hnil3 hloc3);refine⟨⟨k+1,hlk,by go_num,?_,?_⟩,by simp[intOf];omega⟩
  ·show w3.ownsRow _ _ _ _ _ _;rw[A.out];exact hown3
  exact((a.out.alloc a.out.size _).alloc (q3' a.out _) _).grown hg3 (z.out _ _) (λi hi=>(f_ d.out i hi).1)
 obtain rfl:k=cl.length:=by omega
 have b:Hid (wr.ownsRow w.heap.size 3 1 u3 cl.length (cl.map λy=>cI y.1.1)):=by
  have:=d.out;rwa [W_] at this
 obtain⟨J,K,rfl⟩:=fL b.out;clear d;go_wp2_with fail;go_ret;exact⟨⟨_,rfl,b.out⟩,a.out⟩
variable{c:Cfg}{zs:List (Nat×Sm)}{q:List Pw}{tl:List Tp}{bm n0 p sb yb:Nat}{f:Sm}{s:Ts}{ov qv:Value}{w':World}{x:Xt}
theorem yq:(prog.info? 110).map (λi=>(i.zero,i.size,i.bytes))=some (some (.agg #[I 0,Zn]),2,32):=by kernel_rfl
theorem EW (c:Cfg)(x:Xt)(b t:Nat)(qv:Value)(sb n:Nat)(ov:Value)(bm n':Nat):(aA c x b t qv sb n ov).setIfInBounds 7 (.map (some bm))=aA c {x with tip:=bm,n:=n'} b t qv sb n ov:=rfl
theorem EZ (c:Cfg)(x:Xt)(b t:Nat)(qv:Value)(sb n:Nat)(ov mv:Value):(aA c x b t qv sb n ov).setIfInBounds 8 mv=aA c {x with mv:=mv} b t qv sb n ov:=rfl
theorem aU.setTip (h:aU w S yb mb n0 c s q sb qv ov x tl zs){bm n':Nat}{g:ByteArray->ByteArray}(hM:aD w bm n' g)(hS:S bm)(hne:sb≠bm):
 aU (w.setCell ⟨yb,7,none⟩ (.map (some bm))) S yb mb n0 c {s with tip:=g} q sb qv ov {x with tip:=bm,n:=n'} tl zs/\ak w (w.setCell ⟨yb,7,none⟩ (.map (some bm))) S [201]:=by
 have O:ak w (w.setCell ⟨yb,7,none⟩ (.map (some bm))) S [201]:=ak.mk ((ai.refl w λk=>k=yb).set (.inl rfl)) λk hk e=>by
  subst e;exact⟨h.is.fy,201,by simp,h.is.box.ty⟩
 have a:=λ(k:Nat) (hk:S k)=>hk;have b:=h.is.box.set 7 (.map (some bm));rw[EW (n':=n')] at b;exact⟨aU.mk' ⟨h.rest.nm,h_ h.rest.ml O.size,.inr hS,O.map hM (by decide),h.rest.main.keptT O.k a (by decide) (by decide),h.rest.train.keptT O.k a (b_ _) (by decide) (by decide) (by unfold dO;decide)⟩ h.is.qs b (h.is.que.keptT O.k a (by decide) (by decide)) (O.sub h.is.sub (by decide)) (h.is.outs.keptT O.k a (by decide)) h.is.fy h.is.fs hne,O⟩
theorem aU.setMain (h:aU w S yb mb n0 c s q sb qv ov x tl zs){mv iv:Value}{by_:Nat}{ids:List Nat}(hO:ak w w' S [201,110])(hB:Bx w' yb 201 (aA c {x with mv:=mv} s.begun s.now qv sb s.outs.length ov))(hm:Sl w' 110 2 mv (tl.length+1) (tl.flatMap cTp++[I by_,iv]))(hmv:mv.ownBlock=x.mv.ownBlock\/∃g,mv.ownBlock=some g/\w.heap.size<=g)(hiv:Sl w' 3 1 iv ids.length (ids.map cI))(hin:∀g,iv.ownBlock=some g->w.heap.size<=g):
 aU w' (aE S w) yb mb n0 c {s with main:=s.main++[(by_,ids)]} q sb qv ov {x with mv:=mv} (tl++[((by_,ids),iv)]) zs:=by
 have b:=aE.old (S:=S) w;refine aU.mk' ⟨h.is.np,h_ h.rest.ml hO.size,h.rest.tip.imp (λe=>e) .inl,hO.map h.rest.map (by decide),⟨?_,?_,?_,λy a=>?_⟩,h.rest.train.keptT hO.k b (b_ _) (by decide) (by decide) (by unfold dO;decide)⟩ h.is.qs hB (h.is.que.keptT hO.k b (by decide) (by decide)) (hO.sub h.is.sub (by decide)) (h.is.outs.keptT hO.k b (by decide)) (.inl h.is.fy) (.inl h.is.fs) h.is.nt
 ·rw[w_,h.rest.main.fst];rfl
 ·rw[a_,r_];simpa[cTp] using hm
 ·intro g hg;rcases hmv with e|⟨f,e,d⟩
  ·rw[show ({x with mv:=mv}:Xt).mv=mv from rfl,e] at hg;exact .inl (h.rest.main.own g hg)
  rw[show ({x with mv:=mv}:Xt).mv=mv from rfl,e] at hg;cases hg;exact .inr d
 rcases E_.1 a with a|a
 ·exact⟨hO.sl (h.rest.main.ids y a).1 (by decide),(h.rest.main.ids y a).2.mono b⟩
 obtain rfl:=o_.1 a;exact⟨hiv,λg hg=>.inr (hin g hg)⟩
def lnd (l:List Cg):List (Nat×Nat):=l.map λy=>(y.1,1)
theorem DC {g':ByteArray->ByteArray}(h:aU w S yb mb n0 c s q sb qv ov x tl ((p,f)::zs))(hM:aD w bm n' g')(hS:S bm)(hne:sb≠bm)(h8:f.l.length<=8)(ho:s.outs.length<1048575000)(ha:s.acked<=s.outs.length)(hm:s.main.length<1048575000):
 c_ 212 #[ptr yb,ptr p,.map (some bm)] w λe w'=>e=.returned (.tuple #[])/\(∃ov' mv' tv' tl',aU w' (aE S w) yb mb n0 c {s with tip:=g',outs:=s.outs++lnd f.l,main:=s.main++[(f.by_,f.l.map Prod.fst)],segs:=zs.map Prod.snd} q sb qv ov' ⟨bm,mv',tv',n'⟩ tl' zs)/\ak w w' S [201,99,110,210]:=by
 obtain⟨i0,aM,aN,aO,aP⟩:=info_parts yq;obtain⟨cv,jv,m,t⟩:=h.rest.train.segs (p,f) (by simp);have aa:m.length=f.l.length:=by rw[<-t.chs.fst,d_]
 obtain⟨ca,N,rfl⟩:=t.chs.row.form;have hT:=h.setTip hM hS hne;have ad:Hid (aU (w.setCell ⟨yb,7,none⟩ (.map (some bm))) S yb mb n0 c {s with tip:=g'} q sb qv ov {x with tip:=bm,n:=n'} tl ((p,f)::zs)):=hT.1;have aC:Hid (ak w (w.setCell ⟨yb,7,none⟩ (.map (some bm))) S [201]):=hT.2;have v:Hid (q7 (w.setCell ⟨yb,7,none⟩ (.map (some bm))) S (s.top n0) p f (.slice ca m.length N) jv m):=⟨hT.2.bx t.box (by decide),t.chs.keptT hT.2.k (λ_ h=>h) (by decide) (by decide),t.job.keptT hT.2.k (λ_ h=>h) (b_ _) (by decide) (by decide),t.own⟩;have y7:=h.is.box.c 7 (.map (some x.tip));have f7:=h.is.box.fr 7;have p0:(w.setCell ⟨yb,7,none⟩ (.map (some bm))).cell? ⟨p,0,none⟩=some (.slice ca m.length N):=v.out.box.cell (i:=0) rfl;have W:Hid (¬aE S w mb):=h.is.np;have V:=hd aa;have T:(w.setCell ⟨yb,7,none⟩ (.map (some bm))).heap.size=w.heap.size:=by simp
 rw[<-aa] at h8;clear h hM t hT aa;unfold ptr;go_enter func212,ntmps212;go_upto_region 1 with fail;generalize w.setCell ⟨yb,7,none⟩ (.map (some bm))=w0 at *;clear y7 f7;go_wp2_with fail;clear p0;have X:=hd T;clear T;go_loopw [17] (λiv wr=>∃k:Nat,k<=m.length/\iv=I k/\Hid (∃ov',aU wr (aE S w) yb mb n0 c {s with tip:=g',outs:=s.outs++lnd (f.l.take k)} q sb qv ov' {x with tip:=bm,n:=n'} tl ((p,f)::zs))/\Hid (ak w0 wr S [201,99])) (λi _=>m.length-(intOf i).toNat)
 case atStart=>exact⟨0,k_ _,rfl,⟨ov,by simpa[lnd] using ad.out.mono (aE.old w) W.out⟩,ak.refl _ _ _⟩
 obtain⟨k,hk,rfl,hY,Y⟩:=hrel;by_cases hlk:k<m.length
 ·have r:=v.out.chs.keptT Y.out.k (aE.old w) (by decide) (by decide);obtain⟨g,az,aT,hv,_⟩:=r.row.addr (by omega);cases hv
  obtain⟨ea,en,ec,he⟩:=r.sl _ (i_ hlk);have aL:k<f.l.length:=by rw[<-V.out];exact hlk
  have Q:m[k].1=f.l[k]:=by
   have:=r.fst;simp[<-this]
  have d0:wr.cell? ⟨g,az+k*2,none⟩=some (I m[k].1.1):=r.row.cell (j:=k*2) (by rw[show k*2=k*2+0 from rfl,aq cC 2 (λ_=>rfl) m k 0 hlk (by omega)];rfl)
  have d1:wr.cell? ⟨g,az+k*2+1,none⟩=some (.slice ea en ec):=by
   have:=r.row.cell (j:=k*2+1) (u:=.slice ea en ec) (by rw[aq cC 2 (λ_=>rfl) m k 1 hlk (by omega),<-he];rfl);rwa [<-J_] at this
  obtain⟨B,d⟩:=hY.out
  have HL:Hid ((s.outs++lnd (f.l.take k))++[(m[k].1.1,1)]=s.outs++lnd (f.l.take (k+1))):=by
   show _=_;rw[g_ aL,lnd,lnd,w_,A_,Q];rfl
  have ar:(s.outs++lnd (f.l.take k)).length<1048576000:=by
   simp[lnd];omega
  have hE:=yf m[k].1.1 1 (d.later (af wr (.cells #[I m[k].1.1,.slice ea en ec] 273))) ar (by simp only[a_];omega);have ab:=e_ (Nat.le_of_eq X.out.symm) Y.out.size;generalize m[k].1.1=x0 at *;clear r he Q d;go_wp2_with fail;go_fit hE;rintro e w3 ⟨rfl,⟨aB,ao⟩,al⟩
  have aJ:Hid (aU w3 (aE S w) yb mb n0 c {s with tip:=g',outs:=s.outs++lnd (f.l.take (k+1))} q sb qv aB {x with tip:=bm,n:=n'} tl ((p,f)::zs)):=by
   have:=ao.mono (aE.two (e_ ab (af wr (.cells #[I x0,.slice ea en ec] 273)).size)) W.out;rwa [<-HL.out]
  have aF:Hid (ak w0 w3 S [201,99]):=ak.mono (ak.trans Y.out (ak.from_new al) λj hj=>hj.imp (λh=>h) (λh=>by rw[X.out];exact h)) (λ_ h=>h) (by decide);clear hE ao al;go_wp2_with fail;exact⟨⟨k+1,hlk,by go_num,⟨aB,aJ.out⟩,aF.out⟩,by simp[intOf];omega⟩
 obtain rfl:k=m.length:=by omega
 have an:=hY.out;rw[show f.l.take m.length=f.l by rw[V.out,W_]] at an;obtain⟨B,d⟩:=an;have Z:=Y.out.bx v.out.box (by decide);have r:=v.out.chs.keptT Y.out.k (aE.old w) (by decide) (by decide);have hC:=tF p _ _ m wr.drew Z rfl r.row r.sl h8;obtain⟨F,a,av⟩:=d.rest.main.row.form;have A:x.mv=.slice F tl.length a:=av
 have aW:tl.length<1048575000:=by
  have:=d.rest.main.fst;have e:(tl.map Prod.fst).length=s.main.length:=by rw[this]
  rw[d_] at e;omega
 have m8:wr.cell? ⟨yb,8,none⟩=some (.slice F tl.length a):=by
  have:=d.is.box.c 8 x.mv;rw[this,A]
 have p2:=Z.c 2 (I f.by_)
 have G:Hid (Sl wr 110 2 (.slice F tl.length a) tl.length (tl.flatMap cTp)):=by
  have:=d.rest.main.row;rw[show ({x with tip:=bm,n:=n'}:Xt).mv=.slice F tl.length a from A] at this;exact this
 have z:Hid (Bx wr yb 201 (aA c {x with tip:=bm,n:=n'} s.begun s.now qv sb (s.outs++lnd f.l).length B)):=d.is.box;have ab:=e_ (Nat.le_of_eq X.out.symm) Y.out.size
 have R:(m.map λy=>cI y.1.1)=(f.l.map Prod.fst).map cI:=by
  rw[<-r.fst,y_,y_];rfl
 have M:Hid (∀H iv W8 w8 v8,Bl wr H->H.ownsRow wr.heap.size 3 1 iv m.length (m.map λy=>cI y.1.1)->Bl H W8->Sl w8 110 2 v8 (tl.length+1) (tl.flatMap cTp++[I f.by_,iv])->W8.grownBy w8 (Value.slice F tl.length a).ownBlock->(v8.ownBlock=(Value.slice F tl.length a).ownBlock\/∃g,v8.ownBlock=some g/\W8.heap.size<=g)->∃mv' tl',aU (w8.setCell ⟨yb,8,none⟩ v8) (aE S w) yb mb n0 c {s with tip:=g',outs:=s.outs++lnd f.l,main:=s.main++[(f.by_,f.l.map Prod.fst)]} q sb qv B ⟨bm,mv',x.tv,n'⟩ tl' ((p,f)::zs)/\ak wr (w8.setCell ⟨yb,8,none⟩ v8) (aE S w) [201,110]):=λH iv W8 w8 v8 b C hB8' hS8 hG8 hL8=>by
  have L:Bl wr W8:=aK b hB8';have D:(Value.slice F tl.length a).ownBlock≠some yb:=G.out.ne z.out (by decide);have K:Bx w8 yb 201 (aA c {x with tip:=bm,n:=n'} s.begun s.now qv sb (s.outs++lnd f.l).length B):=(z.out.later L).grown hG8 D.symm
  have ax:v8.ownBlock≠some yb:=by
   rcases hL8 with e|⟨g,e,J⟩
   ·rw[e];exact D
   rw[e];intro e';cases e';have:=z.out.lt;have:=L.size;omega
  have O8:ak wr (w8.setCell ⟨yb,8,none⟩ v8) (aE S w) [201,110]:=ak.mk (E:=λk=>k=yb\/(Value.slice F tl.length a).ownBlock=some k) (((ai.of_below L).trans (ai.of_grown hG8 (S:=λk=>(Value.slice F tl.length a).ownBlock=some k) λk e=>e) λk e=>.inl (.inr e)).set (.inl (.inl rfl))) λk _ e=>by
   rcases e with rfl|e
   ·exact⟨d.is.fy,201,by simp,z.out.ty⟩
   exact⟨d.rest.main.own k (by rw[show ({x with tip:=bm,n:=n'}:Xt).mv=.slice F tl.length a from A];exact e),110,by simp,G.out.ty e⟩
  have aj:=K.set 8 v8;rw[EZ] at aj;refine⟨v8,_,aU.mono (d.setMain (by_:=f.by_) (ids:=f.l.map Prod.fst) (iv:=iv) O8 aj ?_ ?_ ?_ ?_) (aE.two ab) W.out,O8⟩
  ·exact hS8.grown (ah _ _ _ _) (λg J e=>ax (by rw[J];exact e.symm))
  ·rcases hL8 with e|⟨g,e,J⟩
   ·exact .inl (by rw[e,show ({x with tip:=bm,n:=n'}:Xt).mv=.slice F tl.length a from A])
   exact .inr ⟨g,e,e_ L.size J⟩
  ·have h1:=Sl.of_row C;rw[R] at h1;rw[show (f.l.map Prod.fst).length=m.length by rw[d_,V.out]];have aw:∀g,iv.ownBlock=some g->wr.heap.size<=g:=λg J=>(f_ C g J).1;refine((h1.later hB8').grown hG8 λg J e=>?_).grown (ah _ _ _ _) λg J e=>?_
   ·have:=G.out.lt e;have:=aw g J;omega
   have:=aw g J;have:=z.out.lt;cases e
   omega
  exact λg J=>(f_ C g J).1
 have q1:Hid (tl.length+1<=maxLen):=by show _<=_;unfold maxLen;omega
 have q2:Hid ((tl.length+1)*32<=140737488355328):=e_ (u_ 32 (show tl.length+1<=1048576000 by omega)) (by decide);have f8:=λ(w8:World) (h:Bx w8 yb 201 (aA c {x with tip:=bm,n:=n'} s.begun s.now qv sb (s.outs++lnd f.l).length B))=>h.fr 8;have D:Hid ((Value.slice F tl.length a).ownBlock≠some yb):=G.out.ne z.out (by decide);clear hY d Z r av A R f8 ad;go_upto_region 6 with fail;go_cut [] from 42 (λwz=>∃mv' tl',aU wz (aE S w) yb mb n0 c {s with tip:=g',outs:=s.outs++lnd f.l,main:=s.main++[(f.by_,f.l.map Prod.fst)]} q sb qv B ⟨bm,mv',x.tv,n'⟩ tl' ((p,f)::zs)/\ak wr wz (aE S w) [201,110])
 case first=>
  go_region_law ((first|(refine wD rfl 149 [_] _ rfl [ptr p] (by simp[Act.eval,Act.put,ptr]) (enters_of func149 (by kernel_rfl) rfl) hC ?_;rintro e H ⟨⟨iv,rfl,C⟩,b⟩;refine⟨_,rfl,?_⟩;obtain⟨ia,ay,rfl⟩:=fL C;have aQ:=ae (show Bl wr H from ⟨b.os,b.tape,b.output,b.size,b.block⟩) m8;have aY:=ae (show Bl wr H from ⟨b.os,b.tape,b.output,b.size,b.block⟩) p2;have aS:∀o,(H.alloc o).cell? ⟨yb,8,none⟩=some (.slice F tl.length a):=(λo=>ae (af H o) aQ);have U:Hid (Bl wr H):=⟨b.os,b.tape,b.output,b.size,b.block⟩;have aH:=hd C;clear C b)|(refine bp rfl _ _ 106 rfl _ i0 _ 2 32 underlying106 aM aN aO aP rfl (by decide) (.slice F tl.length a) _ _ (by simp[Act.eval]) (Sl.mk (G.out.later U.out) _) ⟨H.heap.size,0,none⟩ 1 1 [I f.by_,.slice ia m.length ay] (by simp[Act.eval]) rfl (au H _ _) (by simp[Value.oneCell']) q1.out q2.out ?_;intro v8 w8 hS8 hG8 hL8;obtain⟨a8,c8,rfl⟩:=hS8.form;have K:Bx w8 yb 201 (aA c {x with tip:=bm,n:=n'} s.begun s.now qv sb (s.outs++lnd f.l).length B):=((z.out.later U.out).mk _).grown hG8 D.out.symm;have aX:=K.c 8 x.mv;have aV:=K.fr 8;have HX:=M.out H _ _ w8 _ U.out aH.out (af _ _) hS8 hG8 hL8;have aI:Hid _:=HX;clear HX hS8 hG8 hL8 K)))
  all_goals
   go_wp2_with fail;go_meet
   case rel=>exact aI.out
 obtain⟨mv',tl',ap,am⟩:=hcut;rename World=>wz;have hD:=p5 ap;have aG:Hid (ak w wz S [201,99,110]):=ak.mono (ak.trans (ak.trans aC.out Y.out (aE.old w)) am λk hk=>hk) (λ_ h=>h) (by decide);clear ap am hC m8 p2 M G z;go_wp2_with fail;go_fit hD;rintro e aR ⟨rfl,⟨tv',P⟩,O⟩;have ag:=hd P;have ac:Hid (ak w aR S [201,99,110,210]):=ak.mono (ak.trans aG.out O λk hk=>hk) (λ_ h=>h) (by decide);clear P O hD;go_wp2_with fail;go_end0;exact⟨rfl,⟨B,mv',tv',tl',ag.out⟩,ac.out⟩
variable{cap off:Nat}
theorem jP {g:Nat}(hS:Sl w e size (s_ g off n cap) n xs)(o:Obj):∀j u,xs[j]? =some u->(w.alloc o).cell? ((⟨g,off,none⟩:Addr).add j)=some u:=λj u hu=>by
 have e:(⟨g,off,none⟩:Addr).add j=⟨g,off+j,none⟩:=by
  unfold Addr.add;by_cases h:j=0
  ·subst h;simp
  simp[h]
 rw[e];exact(hS.mk o).cell hu
theorem lk (w:World)(e:TypeId)(size:Nat):(w.alloc (.cells #[] e)).ownsRow w.heap.size e size (s_ (w.heap.size) 0 0 0) 0 []:=
 ⟨by simp,.inr ⟨w.heap.size,0,#[],rfl,b_ _,Bx.new w #[] e,b_ _,k_ _,by simp,by simp⟩⟩
theorem xg:(prog.info? 110).map (λi=>(i.zero,i.size,i.bytes))=some (some (.agg #[I 0,Zn]),2,32):=by kernel_rfl
theorem xe:(prog.info? 80).map (λi=>(i.zero,i.size,i.bytes))=some (some (.agg #[.string ⟨#[]⟩,.string ⟨#[]⟩]),2,32):=by kernel_rfl
theorem zH (xs:List Value)(v:Value)(n:Nat)(w:World)(hS:Sl w 110 2 v n xs)(h1:∀u∈xs,u.oneCell'=true)(hm:n<=maxLen)(hn:n*32<=140737488355328):
 c_ 145 #[v] w λe w'=>(∃v',e=.returned v'/\w'.ownsRow w.heap.size 110 2 v' n xs)/\Bl w w':=by
 obtain⟨s,q,i,k,l⟩:=info_parts xg;have r:=hS.2;rcases r with ⟨rfl,rfl⟩|⟨g,d,a,p,rfl,_⟩
 ·obtain rfl:xs=[]:=I_ (by simpa using hS.1);have b:∀W:World,(binOp .eql 106 (Zn) (Zn)).run prog W=.ok (.bool true) W:=λW=>Lib.run_eql_slice_nil W _ _ _ _ _ _ _ underlying106;go_enter func145,ntmps145;go_wp2_with fail;go_ret;exact⟨⟨_,rfl,B_ _ _ _ _⟩,n_ _ _⟩
 have o:=hd (jP hS);have m:=hd h1;have h:=hd (hS.1);have t:Hid (0+n<=maxLen):=by show _<=_;omega
 have x:Hid ((0+n)*32<=140737488355328):=by show _<=_;omega
 have b:∀W:World,(binOp .eql 106 (s_ g d n a) (Zn)).run prog W=.ok (.bool false) W:=λW=>Lib.run_eql_slice_nil W _ _ _ _ _ _ _ underlying106;clear hS h1 hm hn;go_enter func145,ntmps145;go_wp2_with (at_builtin;refine wpList_append_own_at _ rfl _ _ 106 rfl w.heap.size _ s _ 2 32 underlying106 q i k l rfl (by decide) (s_ (w.heap.size) 0 0 0) 0 [] rfl (lk w _ _) ⟨g,d,none⟩ n a xs rfl h.out (o.out _) m.out t.out x.out (by simp) ?_;intro v3 w3 hown3 hg3 hnil3 hloc3);have f:Bl w w3:=(af _ _).grown hg3 (by simp) (by intro j hj;cases hj;exact b_ _);have c:w3.ownsRow w.heap.size 110 2 v3 n xs:=by simpa using hown3
 obtain⟨y,z,rfl⟩:=ag c;go_wp2_with fail;go_ret;exact⟨⟨_,rfl,c⟩,f⟩
theorem sy (xs:List Value)(v:Value)(n:Nat)(w:World)(hS:Sl w 3 1 v n xs)(h1:∀u∈xs,u.oneCell'=true)(hm:n<=maxLen)(hn:n*8<=140737488355328):
 c_ 146 #[v] w λe w'=>(∃v',e=.returned v'/\w'.ownsRow w.heap.size 3 1 v' n xs)/\Bl w w':=by
 obtain⟨s,q,i,k,l⟩:=info_parts kg;have r:=hS.2;rcases r with ⟨rfl,rfl⟩|⟨g,d,a,p,rfl,_⟩
 ·obtain rfl:xs=[]:=I_ (by simpa using hS.1);have b:∀W:World,(binOp .eql 56 (Zn) (Zn)).run prog W=.ok (.bool true) W:=λW=>Lib.run_eql_slice_nil W _ _ _ _ _ _ _ underlying56;go_enter func146,ntmps146;go_wp2_with fail;go_ret;exact⟨⟨_,rfl,B_ _ _ _ _⟩,n_ _ _⟩
 have o:=hd (jP hS);have m:=hd h1;have h:=hd (hS.1);have t:Hid (0+n<=maxLen):=by show _<=_;omega
 have x:Hid ((0+n)*8<=140737488355328):=by show _<=_;omega
 have b:∀W:World,(binOp .eql 56 (s_ g d n a) (Zn)).run prog W=.ok (.bool false) W:=λW=>Lib.run_eql_slice_nil W _ _ _ _ _ _ _ underlying56;clear hS h1 hm hn;go_enter func146,ntmps146;go_wp2_with (at_builtin;refine wpList_append_own_at _ rfl _ _ 56 rfl w.heap.size _ s _ 1 8 underlying56 q i k l rfl (by decide) (s_ (w.heap.size) 0 0 0) 0 [] rfl (lk w _ _) ⟨g,d,none⟩ n a xs rfl h.out (o.out _) m.out t.out x.out (by simp) ?_;intro v3 w3 hown3 hg3 hnil3 hloc3);have f:Bl w w3:=(af _ _).grown hg3 (by simp) (by intro j hj;cases hj;exact b_ _);have c:w3.ownsRow w.heap.size 3 1 v3 n xs:=by simpa using hown3
 obtain⟨y,z,rfl⟩:=ag c;go_wp2_with fail;go_ret;exact⟨⟨_,rfl,c⟩,f⟩
theorem xf (xs:List Value)(v:Value)(n:Nat)(w:World)(hS:Sl w 80 2 v n xs)(h1:∀u∈xs,u.oneCell'=true)(hm:n<=maxLen)(hn:n*32<=140737488355328):
 c_ 150 #[v] w λe w'=>(∃v',e=.returned v'/\w'.ownsRow w.heap.size 80 2 v' n xs)/\Bl w w':=by
 obtain⟨s,q,i,k,l⟩:=info_parts xe;have r:=hS.2;rcases r with ⟨rfl,rfl⟩|⟨g,d,a,p,rfl,_⟩
 ·obtain rfl:xs=[]:=I_ (by simpa using hS.1);have b:∀W:World,(binOp .eql 24 (Zn) (Zn)).run prog W=.ok (.bool true) W:=λW=>Lib.run_eql_slice_nil W _ _ _ _ _ _ _ underlying24;go_enter func150,ntmps150;go_wp2_with fail;go_ret;exact⟨⟨_,rfl,B_ _ _ _ _⟩,n_ _ _⟩
 have o:=hd (jP hS);have m:=hd h1;have h:=hd (hS.1);have t:Hid (0+n<=maxLen):=by show _<=_;omega
 have x:Hid ((0+n)*32<=140737488355328):=by show _<=_;omega
 have b:∀W:World,(binOp .eql 24 (s_ g d n a) (Zn)).run prog W=.ok (.bool false) W:=λW=>Lib.run_eql_slice_nil W _ _ _ _ _ _ _ underlying24;clear hS h1 hm hn;go_enter func150,ntmps150;go_wp2_with (at_builtin;refine wpList_append_own_at _ rfl _ _ 24 rfl w.heap.size _ s _ 2 32 underlying24 q i k l rfl (by decide) (s_ (w.heap.size) 0 0 0) 0 [] rfl (lk w _ _) ⟨g,d,none⟩ n a xs rfl h.out (o.out _) m.out t.out x.out (by simp) ?_;intro v3 w3 hown3 hg3 hnil3 hloc3);have f:Bl w w3:=(af _ _).grown hg3 (by simp) (by intro j hj;cases hj;exact b_ _);have c:w3.ownsRow w.heap.size 80 2 v3 n xs:=by simpa using hown3
 obtain⟨y,z,rfl⟩:=ag c;go_wp2_with fail;go_ret;exact⟨⟨_,rfl,c⟩,f⟩
section
open Go.Shelf
attribute [local go_sem] Oper.semAt_some
theorem Eh (f:Value)(w:World):
 c_ 224 #[Zn,I 0,I 0,f] w λe w'=>e=.returned (.tuple #[])/\w'=w:=by
 go_enter func224,ntmps224;go_wp2;refine wp_loop_rounds 1 ?_;rw[rounds_succ];go_wp2;go_end0;exact⟨rfl,rfl⟩
theorem Eg (f:Value)(n:Int)(w:World):
 c_ 190 #[Zn,I 0,I 0,I n,f] w λe w'=>e=.returned (.tuple #[])/\w'=w:=by
 go_enter func190,ntmps190;go_wp2;refine wp_loop_rounds 1 ?_;rw[rounds_succ];go_wp2_with fail;go_fit (Eh f w);rintro e a ⟨rfl,rfl⟩;go_wp2_with fail;(try simp only[Exit.inBlock,Exit.then]);refine bodyPost_ret (results_none rfl _ _ _) rfl ?_;exact⟨rfl,rfl⟩
theorem zO (w:World):
 c_ 191 #[.int .u64 0] w λe w'=>(∃n,e=.returned (I n))/\w'=w:=by
 go_enter func191,ntmps191;go_wp2;go_ret;exact⟨⟨_,rfl⟩,rfl⟩
theorem CU (f:Value)(w:World):
 c_ 151 #[Zn,f] w λe w'=>e=.returned (.tuple #[])/\w'=w:=by
 go_enter func151,ntmps151;go_wp2_with fail;go_fit (zO w);rintro e a ⟨⟨n,rfl⟩,rfl⟩;go_wp2_with fail;go_fit (Eg f n a);rintro e b ⟨rfl,rfl⟩;go_wp2_with fail;go_end0;exact⟨rfl,rfl⟩
end
structure ix (base:Nat)(w:World)(v:Value)(tl:List Tp):Prop where
 row:w.ownsRow base 110 2 v tl.length (tl.flatMap cTp)
 ids:∀y∈tl,w.ownsRow base 3 1 y.2 y.1.2.length (y.1.2.map cI)
 ap:tl.Pairwise λa b=>∀g,a.2.ownBlock=some g->b.2.ownBlock≠some g
theorem sA (l:List Nat):∀u∈l.map cI,u.oneCell'=true:=λu hu=>by
 obtain⟨n,_,rfl⟩:=q_.1 hu
 rfl
theorem zJ (h:∀y∈tl,bD y.2):∀u∈tl.flatMap cTp,u.oneCell'=true:=λu b=>by
 obtain⟨y,d,b⟩:=List.mem_flatMap.1 b
 obtain⟨a,n,c,e⟩:=h y d
 simp only[cTp,R_,List.not_mem_nil,or_false] at b
 rcases b with rfl|rfl
 ·rfl
 rw[e];rfl
theorem zI (ts:List Tp)(y:Tp)(rest:List Tp)(v:Value):((ts++y::rest).flatMap cTp).set (ts.length*2+1) v=(ts++[(y.1,v)]++rest).flatMap cTp:=by
 rw[r_,List.set_append_right _ _ (by rw[aR cTp 2 (λ_=>rfl)];omega),aR cTp 2 (λ_=>rfl),A_,r_];simp[cTp]
theorem Ef (yb:Nat)(cs:Array Value)(mv:Value)(tl:List Tp)(w:World)(hB:Bx w yb 201 cs)(h8:cs[8]? =some mv)(hS:Sl w 110 2 mv tl.length (tl.flatMap cTp))(hids:∀y∈tl,Sl w 3 1 y.2 y.1.2.length (y.1.2.map cI))(hn:tl.length<1048576000)(hl:∀y∈tl,y.1.2.length<=8):
 c_ 104 #[Px yb] w λe w'=>(∃v' tl',e=.returned v'/\tl'.map Prod.fst=tl.map Prod.fst/\ix w.heap.size w' v' tl')/\Bl w w':=by
 have L:∀y∈tl,bD y.2:=λy v=>by
  obtain⟨a,c,e⟩:=(hids y v).form;exact⟨a,_,c,e⟩
 have hC:=zH _ mv tl.length w hS (zJ L) (by unfold maxLen;omega) (e_ (u_ 32 (show tl.length<=1048576000 by omega)) (by decide));have HI:Hid (∀W,Bl w W->∀y∈tl,c_ 146 #[y.2] W λe w'=>(∃v',e=.returned v'/\w'.ownsRow W.heap.size 3 1 v' y.1.2.length (y.1.2.map cI))/\Bl W w'):=λW hW y v=>sy _ y.2 _ W ((hids y v).later hW) (sA _) (by have:=hl y v;unfold maxLen;omega) (by have:=hl y v;omega);have c8:=hB.cell h8;obtain⟨ma,mc,rfl⟩:=hS.form;have Y:=hd L;clear hB hS hids hl h8 L;go_enter func104,ntmps104;go_wp2_with fail;go_fit hC;rintro e w1 ⟨⟨v1,rfl,J⟩,O⟩;obtain⟨a1,U,rfl⟩:=ag J;have HR:=hd J;have V:=hd O;clear hC J O c8;go_wp2_with fail;go_loopw [4,12] (λ_ iv wr=>∃d:List Tp,d.length<=tl.length/\iv=I d.length/\Hid (d.map Prod.fst=(tl.take d.length).map Prod.fst)/\Hid (wr.ownsRow w.heap.size 110 2 (.slice a1 tl.length U) tl.length ((d++tl.drop d.length).flatMap cTp))/\Hid (∀y∈d,wr.ownsRow w.heap.size 3 1 y.2 y.1.2.length (y.1.2.map cI))/\Hid (d.Pairwise λa b=>∀g,a.2.ownBlock=some g->b.2.ownBlock≠some g)/\Hid (Bl w wr)) (λ_ i _=>tl.length-(intOf i).toNat)
 case atStart=>exact⟨[],k_ _,rfl,rfl,by simpa using HR,by simp[Hid],List.Pairwise.nil,V⟩
 obtain⟨d,hk,rfl,s,B,hi,N,T⟩:=hrel;have HK:=hd hk;obtain⟨k,G⟩:∃k,k=d.length:=⟨_,rfl⟩;rw[<-G] at s B hk ⊢;have l:=hd G;clear G;by_cases hlk:k<tl.length
 ·have Z:Hid (d++tl.drop k=d++tl[k]::tl.drop (k+1)):=by show _=_;rw[M_ hlk]
  obtain⟨g,o,hv⟩:∃g o,(Value.slice a1 tl.length U)=s_ g 0 tl.length o:=by
   rcases B.out.2 with ⟨h,h0⟩|⟨g,o,ac,e,_⟩
   ·omega
   exact⟨g,o,e⟩
  cases hv
  obtain⟨ia,il,ic,F⟩:=Y.out _ (i_ hlk);have r:=B.out.cells (g:=g) rfl
  have d1:wr.cell? ⟨g,k*2+1,none⟩=some (.slice ia il ic):=by
   have C:=r (k*2+1) (.slice ia il ic) (by
    rw[Z.out,r_,List.getElem?_append_right (by rw[aR cTp 2 (λ_=>rfl),<-l.out];omega),aR cTp 2 (λ_=>rfl),<-l.out,<-F,F_,Nat.add_sub_cancel_left]
    rfl)
   rw[bE,O_] at C;exact C
  have P:wr.frozen? ⟨g,k*2+1,none⟩=false:=(Sl.of_row B.out).fr _;have aa:=aP d1;have D:=HI.out wr T.out tl[k] (i_ hlk);rw[F] at D;clear F r;go_wp2_with fail;go_fit D;rintro e w2 ⟨⟨v2,rfl,K⟩,x⟩;obtain⟨a2,k2,rfl⟩:=ag K;have e1:=ae x d1;have ab:w2.frozen? ⟨g,k*2+1,none⟩=false:=(World.frozen?_of_block (w:=wr) (x.block g aa)).trans P;have p:=hd K;have n:=hd x;clear K x D d1 P;obtain⟨y,v⟩:∃y,y=tl[k]:=⟨_,rfl⟩;rw[<-v] at p ⊢
  have X:Hid ((tl.take (k+1)).map Prod.fst=(tl.take k).map Prod.fst++[y.1]):=by
   show _=_;rw[g_ hlk,w_,v];rfl
  rw[<-v] at Z;clear v;obtain⟨m,hm⟩:∃m,m=y.1.2.length:=⟨_,rfl⟩;rw[<-hm] at p ⊢;have HM:=hd hm;clear hm;go_wp2_with fail;have A:wr.grownBy w2 none:=⟨n.out.os,n.out.tape,n.out.output,n.out.size,λq hq _=>n.out.block q hq⟩;obtain⟨S,E⟩:=(t_ B.out A (Classical.em _)).stored (k*2+1) (.slice a2 m k2);rw[Z.out,l.out,zI,<-l.out] at S;have Q:=n.out.size;have H:=T.out.size;have R:∀{n':Nat} {u:Value} {ys:List Value} {W:World} {b':Nat},W.ownsRow b' 3 1 u n' ys->W.ownsRow w.heap.size 110 2 (s_ g 0 tl.length U) tl.length ((d++tl.drop k).flatMap cTp)->u.ownBlock=none\/u.ownBlock≠some g:=λt C=>.inr λe=>(Sl.of_row t).apart (Sl.of_row C) (by decide) e rfl;have f:(d++[(y.1,(.slice a2 m k2:Value))]).length=k+1:=by rw[a_,l.out];rfl
  refine⟨⟨d++[(y.1,.slice a2 m k2)],by rw[f];omega,by rw[f];go_num,?_,?_,?_,?_,?_⟩,by simp[intOf];omega⟩
  ·show List.map _ _=_;rw[f,X.out,w_,s.out];rfl
  ·show World.ownsRow _ _ _ _ _ _ _;rw[f];exact S
  ·intro z M;rcases E_.1 M with M|M
   ·have t:=t_ (hi.out z M) A (Classical.em _);exact t_ t E (R t (t_ B.out A (Classical.em _)))
   obtain rfl:=o_.1 M;have t:=t_ (cp p.out H) E (R p.out (t_ B.out A (Classical.em _)));show World.ownsRow _ _ _ _ _ y.1.2.length _;rw[<-HM.out];exact t
  ·show List.Pairwise _ _;rw[List.pairwise_append];refine⟨N.out,by simp,λz M z' hz' q hq e=>?_⟩;obtain rfl:=o_.1 hz';have t:=(f_ (hi.out z M) q hq).2;have C:=(f_ p.out q e).1;omega
  exact(T.out.trans (n.out.mono H)).grown E (e_ H Q) (λj hj=>by cases hj;exact(f_ B.out g rfl).1)
 have f:d.length=tl.length:=by have:=l.out;have:=HK.out;omega
 have HL:Hid (d.map Prod.fst=tl.map Prod.fst/\wr.ownsRow w.heap.size 110 2 (.slice a1 tl.length U) d.length (d.flatMap cTp)):=by
  have t:=s.out;have C:=B.out;rw[l.out,f,W_] at t;rw[l.out,f,List.drop_length,T_] at C;rw[f];exact⟨t,C⟩
 obtain rfl:k=tl.length:=by omega
 clear f;go_wp2_with fail;go_ret;exact⟨⟨_,d,rfl,HL.out.1,HL.out.2,hi.out,N.out⟩,T.out⟩
end
end Go.Proofs.YtgamgomepdfgdaaGreat
