import Derived.RangeFuncCalls
import Derived.OrdersIn
import Derived.Deep.Quiet
import Derived.Test.YtgamgomepdfgdaaGreatEM04
set_option maxRecDepth 100000
set_option maxHeartbeats 8000000
namespace Go.Proofs.YtgamgomepdfgdaaGreat
open Go.RowKit Go.Proofs.Tryz
theorem lets_out {Q Q':Exit->Act->World->Prop}(hq:∀e a w,e≠.normal->Q e a w->Q' e a w)(h:LetsOut Q):LetsOut Q':=by
  obtain⟨a,w,h⟩:=h
  exact⟨a,w,hq _ _ _ (by simp) h⟩
theorem wp_both {P:Program}{o:Oper}{a:Act}{w:World}{K K':Act->World->Prop}{Q Q':Exit->Act->World->Prop}(h:∀a w,K a w->K' a w)(hq:∀e a w,e≠.normal->Q e a w->Q' e a w)(hh:o.wp P a w K Q):o.wp P a w K' Q':=by
  unfold Oper.wp at *
  generalize (execOp a.eval o).run P w=r at *
  cases r with
  |ok n w'=>
    cases n<;>simp only[Oper.upon] at hh ⊢<;>
      first
        |exact h _ _ hh
        |exact hq _ _ _ (by simp) hh
        |exact Calls.mono hh (λe w'' he=>by cases e<;>first|exact h _ _ he|exact hq _ _ _ (by simp) he|exact lets_out hq he|exact he)
        |exact Rows.mono hh (λ_ _ he=>h _ _ he)
        |exact hh
  |halt x w'=>cases x<;>simp only[Oper.upon] at hh ⊢<;>first|exact hh|exact hq _ _ _ (by simp) hh|exact lets_out hq hh
def nop (st:Oper):Oper:={st with op:=.move (.const (.bool true)),dst:=none}
theorem nop_wp {P:Program}{st:Oper}{a:Act}{w:World}{K:Act->World->Prop}{Q:Exit->Act->World->Prop}(h:(nop st).wp P a w K Q):K a w:=by
  unfold Oper.wp at h
  simpa[nop,execOp,Oper.upon,Act.put,Act.eval] using h
def Owed (P:Program)(st:Oper)(Q:Exit->Act->World->Prop):Exit->Act->World->Prop
  |.normal,a,w=>st.wp P a w (λa' w'=>Q .normal a' w') Q
  |e,a,w=>Q e a w
theorem Owed.other {P:Program}{st:Oper}{Q:Exit->Act->World->Prop}:∀e a w,e≠.normal->Owed P st Q e a w->Q e a w:=λe a w he h=>by
  cases e<;>first|exact absurd rfl he|exact h
def Shutd (md:Region.Mode)(ops:Array Oper)(listed:Array Bool):Prop:=
  ∀(i:Nat) (o:Oper) (e:Edge),listed.getD i false=true->ops[i]? =some o->e∈o.after->Region.binds md e=true->listed.getD e.on false=true
theorem ready_some {md:Region.Mode}{ops:Array Oper}{listed:Array Bool}(hs:listed.size=ops.size)(hlt:∀(i:Nat) (o:Oper) (e:Edge),ops[i]? =some o->e∈o.after->e.on<i):∀(n j:Nat),j<=n->j<ops.size->listed.getD j true=false->Region.ready md ops listed≠[]
  |0,j,hj,hjs,h0=>by
    obtain rfl:j=0:=by omega
    refine List.ne_nil_of_mem (a:=0) (mem_ready.2 ⟨h0,ops[0],by simp[hjs],λe he _=>?_⟩)
    have:=hlt 0 ops[0] e (by simp[hjs]) he
    omega
  |n+1,j,hj,hjs,h0=>by
    by_cases hall:∀i,i<j->listed.getD i true=true
    · refine List.ne_nil_of_mem (a:=j) (mem_ready.2 ⟨h0,ops[j],by simp[hjs],λe he _=>?_⟩)
      have hl:=hlt j ops[j] e (by simp[hjs]) he
      have h1:=hall e.on hl
      have:e.on<listed.size:=by omega
      simpa[this] using h1
    · have ⟨i,hi⟩:=Classical.not_forall.1 hall
      obtain⟨hij,hi⟩:=Classical.not_imp.1 hi
      have hi':listed.getD i true=false:=by simpa using hi
      exact ready_some hs hlt n i (by omega) (by omega) hi'
theorem all_listed {md:Region.Mode}{ops:Array Oper}{listed:Array Bool}{L:Nat}(hsh:Shutd md ops listed)(hsz:ops.size=L+1)(hs:listed.size=ops.size)(nxt:Nat->Nat)(hn:∀j,j<L->j<nxt j/\nxt j<=L/\∃o,ops[nxt j]? =some o/\∃e∈o.after,Region.binds md e=true/\e.on=j)(hr:L∈Region.ready md ops listed):∀n j,L-j<=n->j<L->listed.getD j false=true
  |0,j,hj,hl=>by omega
  |n+1,j,hj,hl=>by
    obtain⟨h1,h2,o,ho,e,he,hb,rfl⟩:=hn j hl
    by_cases hL:nxt e.on=L
    · obtain⟨_,o',ho',hall⟩:=mem_ready.1 hr
      rw[hL,ho'] at ho
      cases ho
      exact hall e he hb
    · exact hsh _ o e (all_listed hsh hsz hs nxt hn hr n (nxt e.on) (by omega) (by omega)) ho he hb
theorem wpAny_owed {P:Program}{md:Region.Mode}{ops:Array Oper}{L:Nat}{st:Oper}{Q:Exit->Act->World->Prop}(h1:ops[L]? =some st)(hd:st.dst=none)(hg:st.guard=none)(hsz:ops.size=L+1)(hlt:∀(i:Nat) (o:Oper) (e:Edge),ops[i]? =some o->e∈o.after->e.on<i)(nxt:Nat->Nat)(hn:∀j,j<L->j<nxt j/\nxt j<=L/\∃o,ops[nxt j]? =some o/\∃e∈o.after,Region.binds md e=true/\e.on=j):
    ∀(fuel:Nat) (listed:Array Bool) (a:Act) (w:World),listed.size=ops.size->listed.getD L true=false->Shutd md ops listed->wpAny P md (ops.setIfInBounds L (nop st)) (Owed P st Q) fuel listed a w->wpAny P md ops Q fuel listed a w:=by
  have hLs:L<ops.size:=by omega
  have hready:∀listed,Region.ready md (ops.setIfInBounds L (nop st)) listed=Region.ready md ops listed:=λlisted=>by
    unfold Region.ready
    rw[Array.size_setIfInBounds]
    congr 1;funext i
    by_cases e:L=i
    · subst e
      rw[Array.getElem?_setIfInBounds,h1]
      simp[hLs,nop]
    · rw[Array.getElem?_setIfInBounds_ne e]
  have hyield:∀t,yielded (ops.setIfInBounds L (nop st)) t=yielded ops t:=λt=>by
    funext j
    unfold yielded
    by_cases e:L=j
    · subst e
      rw[Array.getElem?_setIfInBounds,h1]
      simp[hLs,nop,hd]
    · rw[Array.getElem?_setIfInBounds_ne e]
  intro fuel
  induction fuel with
  |zero=>
    intro listed a w hs hL _ h
    have h':=h.1
    rw[hready] at h'
    exact absurd h' (ready_some hs hlt L L (Nat.le_refl _) hLs hL)
  |succ fuel ih=>
    intro listed a w hs hL hsh h
    refine⟨λhe=>absurd he (ready_some hs hlt L L (Nat.le_refl _) hLs hL),λi hi=>?_⟩
    have h2:=h.2 i (by rw[hready];exact hi)
    by_cases e:i=L
    · subst e
      have hal:=λj hj=>all_listed hsh hsz hs nxt hn hi (i-j) j (Nat.le_refl _) hj
      have hnone:Region.ready md ops (listed.setIfInBounds i true)=[]:=by
        rcases hr:Region.ready md ops (listed.setIfInBounds i true) with _|⟨j,l⟩
        · rfl
        · have hm:j∈Region.ready md ops (listed.setIfInBounds i true):=by rw[hr];simp
          obtain⟨h0,o,ho,_⟩:=mem_ready.1 hm
          have hjs:=(Array.getElem?_eq_some_iff.1 ho).1
          by_cases hji:i=j
          · subst hji
            have:i<listed.size:=by omega
            simp[this] at h0
          · rw[getD_set_ne true hji] at h0
            have h3:=hal j (by omega)
            have:j<listed.size:=by omega
            simp[this] at h0 h3
            rw[h3] at h0;cases h0
      unfold wpOp at h2 ⊢
      rw[Array.getElem?_setIfInBounds] at h2
      simp only[hLs,if_true] at h2
      rw[h1]
      have hw:∀f,Region.wanted st f=true:=λf=>by simp[Region.wanted,hg]
      have hw':∀f,Region.wanted (nop st) f=true:=λf=>by simp[Region.wanted,nop,hg]
      simp only[hw,if_true]
      simp only[hw',if_true] at h2
      have key:∀a w,wpAny P md (ops.setIfInBounds i (nop st)) (Owed P st Q) fuel (listed.setIfInBounds i true) a w->Owed P st Q .normal a w:=λa w hh=>by
        cases fuel with
        |zero=>exact hh.2
        |succ n=>exact hh.1 (by rw[hready];exact hnone)
      rcases h2 with h2|⟨h2,h3⟩
      · have h4:Owed P st Q .normal a w:=key _ _ (nop_wp h2)
        refine .inl (wp_both (λa' w' hQ=>?_) (λ_ _ _ _ h=>h) h4)
        cases fuel with
        |zero=>exact⟨hnone,hQ⟩
        |succ n=>exact⟨λ_=>hQ,λk hk=>by rw[hnone] at hk;cases hk⟩
      · exfalso
        have h5:noRoomEvent∈(#[]:Array Event):=h2.1
        simp at h5
    · have hne:L≠i:=λx=>e x.symm
      have hin:∀a w,wpAny P md (ops.setIfInBounds L (nop st)) (Owed P st Q) fuel (listed.setIfInBounds i true) a w->wpAny P md ops Q fuel (listed.setIfInBounds i true) a w:=λa w hh=>by
        refine ih _ a w (by simpa using hs) (by rw[getD_set_ne true e];exact hL) (λk o x hk ho hx hb=>?_) hh
        by_cases hki:i=k
        · subst hki
          obtain⟨_,o',ho',hall⟩:=mem_ready.1 hi
          rw[ho'] at ho
          cases ho
          exact getD_set_true (hall x hx hb)
        · rw[getD_set_ne false hki] at hk
          exact getD_set_true (hsh k o x hk ho hx hb)
      unfold wpOp at h2 ⊢
      rw[Array.getElem?_setIfInBounds_ne hne] at h2
      cases ho:ops[i]? with
      |none=>rw[ho] at h2;exact hin _ _ h2
      |some o=>
        rw[ho] at h2
        simp only[hyield] at h2
        by_cases hw:Region.wanted o (yielded ops a.tmps)=true
        · simp only[hw,if_true] at h2 ⊢
          exact h2.imp (wp_both hin Owed.other) (λ⟨x,y⟩=>⟨x,lets_out Owed.other y⟩)
        · simp only[hw] at h2 ⊢
          exact hin _ _ h2
def pathB (k:Nat):ByteArray:=strOfNums [97+(k:Int)%26,97+(k:Int)/26%26,97+(k:Int)/676]
theorem path_any (k:Nat)(hk:k<26)(w:World):
    Calls prog 22 #[.int .i64 k] w λe w'=>e=.returned (.string (pathB k))/\w'=w.alloc (.cells #[.int .u8 (97+(k:Int)%26),.int .u8 (97+(k:Int)/26%26),.int .u8 (97+(k:Int)/676)] 5):=by
  have hcv:=run_convert_bytes_arg (P:=prog) (w:=w.alloc (.cells #[.int .u8 (97+(k:Int)%26),.int .u8 (97+(k:Int)/26%26),.int .u8 (97+(k:Int)/676)] 5)) 114 5 underlying114 underlying5 w.heap.size 0 3 3 [97+(k:Int)%26,97+(k:Int)/26%26,97+(k:Int)/676] rfl (by
    intro j hj
    match j,hj with
    |0,_=>simp
    |1,_=>simp
    |2,_=>simp) 9 underlying9
  rw[show strOfNums [97+(k:Int)%26,97+(k:Int)/26%26,97+(k:Int)/676]=pathB k from rfl] at hcv
  go_enter func22,ntmps22
  go_wp2
  go_ret
  exact⟨rfl,rfl⟩
def shortB (s:ByteArray):ByteArray:=if 8<s.size then s.extract 0 8 else s
theorem alike_row (l m:List Fl)(b off cap cap':Nat)(a':Option Addr)(w:World)(hm:FilesAt w (.slice a' l.length cap') m)(he:m.length=l.length)(hn:l.length<8796093022208)(h0:∀i (h:i<l.length),w.cell? ⟨b,off+i*2,none⟩=some (.string l[i].1))(h1:∀i (h:i<l.length),w.cell? ⟨b,off+i*2+1,none⟩=some (.string l[i].2))(hall:∀i (h:i<l.length),standsL m l[i].1=l[i].2):
    Calls prog 65 #[.slice (some ⟨b,off,none⟩) l.length cap,.slice a' l.length cap'] w λe w'=>e=.returned (.bool true)/\Drew w w':=by
  have Hall:Hid (∀i (h:i<l.length),standsL m l[i].1=l[i].2):=hall
  have hst:=λ(q:ByteArray) n=>law_stands m q (.slice a' l.length cap') (w.drewN n) hm (by omega)
  clear hall he
  go_enter func65,ntmps65
  go_wp2
  go_loopw [5] (λi wr=>∃k n:Nat,k<=l.length/\i=.int .i64 k/\wr=w.drewN n) (λi _=>l.length-(intOf i).toNat)
  case atStart=>exact⟨0,0,Nat.zero_le _,rfl,rfl⟩
  case round=>
    obtain⟨k,n,hk,rfl,rfl⟩:=hrel
    by_cases hlt:k<l.length
    · have hs2:=Hall.out k hlt
      have hst':∀j,Calls prog 102 #[.slice a' l.length cap',.string l[k].1] (w.drewN (n+j)) λe w''=>e=.returned (.string l[k].2)/\∃m,w''=w.drewN (n+m):=λj=>by
        have:=hst l[k].1 (n+j)
        rw[hs2] at this
        refine this.mono ?_
        rintro e w' ⟨rfl,rfl⟩
        exact⟨rfl,j,rfl⟩
      clear hs2 hst hm
      go_wp2
      go_quiet ((go_at_call 102;exact hst' _))
      go_wp2
      go_roundw
      case rel=>exact⟨k+1,_,hlt,by go_num,rfl⟩
      case measure=>simp[intOf];omega
    · go_wp2
      go_ret
      exact⟨rfl,.one _ _⟩
theorem alike_none (a a':Option Addr)(cap cap':Nat)(w:World):
    Calls prog 65 #[.slice a 0 cap,.slice a' 0 cap'] w λe w'=>e=.returned (.bool true)/\Drew w w':=by
  go_enter func65,ntmps65
  go_wp2
  go_loop [5] (λi=>i=.int .i64 0) (λ_=>0)
  case atStart=>rfl
  case round=>
    subst hrel
    go_wp2
    go_ret
    exact⟨rfl,.refl _⟩
def noDefer (l:List Oper):Bool:=l.all λo=>match o.op with|.defer _=>false|_=>true
theorem noDefer_spec {l:List Oper}(h:noDefer l=true){i:Nat}{o:Oper}(ho:l.toArray[i]? =some o):∀c,o.op≠.defer c:=λc e=>by
  have hm:o∈l:=by
    rw[List.getElem?_toArray] at ho
    exact List.mem_of_getElem? ho
  have:=List.all_eq_true.1 h o hm
  rw[e] at this
  cases this
theorem calls_round {P:Program}{f:FuncId}{args:Array Value}{w:World}{R:Ending->World->Prop}(l n:Nat)(h:Calls P f args w R):CallsIn (Fence.wide.inRound l) n P f args w R:=CallsIn.inRound l (callsIn_wide.2 h)
theorem opIn_of_q {l n:Nat}{P:Program}{ops:Array Oper}{C:World->Prop}{Q:Exit->Act->World->Prop}{i:Nat}{K:Act->Prop}{K':Act->World->Prop}{a:Act}{w:World}(hd:∀o,ops[i]? =some o->∀c,o.op≠.defer c)(hw:C w)(hK:∀a w,C w->K a->K' a w)(h:qOp P ops C i K a):
    wpOpIn (Fence.wide.inRound l) n P ops Q i K' a w:=by
  unfold qOp at h
  unfold wpOpIn
  cases ho:ops[i]? with
  |none=>
    simp only[ho] at h ⊢
    exact hK _ _ hw h
  |some o=>
    simp only[ho] at h ⊢
    by_cases hwt:Region.wanted o (yielded ops a.tmps)=true
    · simp only[hwt,if_true] at h ⊢
      obtain⟨v,hv,hk⟩:=h
      have hq:=hv w hw
      unfold Oper.quietAt at hq
      refine⟨λ_ _=>trivial,?_⟩
      rw[Oper.semAt_eq _ _ _ (hd o ho)]
      generalize (execOp a.eval o).run P w=r at hq ⊢
      cases r with
      |ok nx w'=>
        cases nx<;>simp only[Oper.quietUpon] at hq<;>simp only[Oper.uponIn]
        case value=>obtain⟨rfl,rfl⟩:=hq;exact hK _ _ hw hk
        case skip=>obtain⟨rfl,rfl⟩:=hq;exact hK _ _ hw hk
        case enter=>
          obtain⟨rfl,hc⟩:=hq
          refine⟨λe=>by simp[Fence.wide] at e,calls_round l _ (hc.mono ?_)⟩
          rintro e w'' ⟨rfl,hC⟩
          exact hK _ _ hC hk
      |halt x w'=>cases x<;>exact hq.elim
    · simp only[hwt] at h ⊢
      exact⟨λ_ _=>trivial,hK _ _ hw h⟩
theorem anyIn_of_q {l n:Nat}{P:Program}{md:Region.Mode}{ops:Array Oper}{C:World->Prop}{Q:Act->Prop}{Q':Exit->Act->World->Prop}(hd:∀(i:Nat) (o:Oper),ops[i]? =some o->∀c,o.op≠.defer c)(hQ:∀a w,C w->Q a->Q' .normal a w):∀(fuel:Nat) (listed:Array Bool) (a:Act) (w:World),C w->
    wpAnyQ P md ops C Q fuel listed a->wpAnyIn (Fence.wide.inRound l) n P md ops Q' fuel listed a w
  |0,_,_,_,hw,h=>⟨h.1,hQ _ _ hw h.2⟩
  |fuel+1,_,_,_,hw,h=>⟨λh0=>hQ _ _ hw (h.1 h0),λi hi=>opIn_of_q (hd i) hw (λa' w' hw'=>anyIn_of_q hd hQ fuel _ a' w' hw') (h.2 i hi)⟩
theorem wpIn_round_quiet {l n:Nat}{P:Program}{id:Nat}{Q:Exit->Act->World->Prop}{a:Act}{w:World}{ol:List Oper}(hm:P.follows .mixedOrders=true)(hB:Region.lexB .any ol.toArray=true)(hd:noDefer ol=true)(h:wpQuiet P ol.toArray (λw'=>∃n,w'=w.drewN n) (λa'=>∀w',(∃n,w'=w.drewN n)->Q .normal a' w') ol a):(Code.region id ol.toArray true).wpIn (Fence.wide.inRound l) n P Q a w:=by
  simp only[Region.lexB,Bool.and_eq_true] at hB
  refine wpIn_region_any hm (anyIn_of_q (C:=λw'=>∃n,w'=w.drewN n) (Q:=λa'=>∀w',(∃n,w'=w.drewN n)->Q .normal a' w') (λi o ho=>noDefer_spec hd ho) (λ_ w' hw' h=>h w' hw') _ _ _ _ ⟨1,rfl⟩ ?_)
  have:=wpAnyQ_lex (C:=λw'=>∃n,w'=w.drewN n) (md:=.any) hB.1 ol.toArray.toList 0 (Array.replicate ol.toArray.size false) a (by simp) (by simpa using hB.2) (by simpa using h)
  simpa using this
theorem rows_round {P:Program}{row:String}{args:Array Value}{w:World}{R:Value->World->Prop}(l n:Nat)(h:Rows P row args w R):RowsIn (Fence.wide.inRound l) n P row args w R:=λc cs _=>by
  obtain⟨v,w',r,s⟩:=h c cs
  exact⟨v,w',r,stepsIn_wide.2 s⟩
theorem opIn_of {l n:Nat}{P:Program}{ops:Array Oper}{Q:Exit->Act->World->Prop}{i:Nat}{K K':Act->World->Prop}{a:Act}{w:World}(hd:∀o,ops[i]? =some o->∀c,o.op≠.defer c)(hL:¬LetsOut Q)(hK:∀a w,K a w->K' a w)(h:wpOp P ops Q i K a w):
    wpOpIn (Fence.wide.inRound l) n P ops Q i K' a w:=by
  unfold wpOp at h
  unfold wpOpIn
  cases ho:ops[i]? with
  |none=>
    simp only[ho] at h ⊢
    exact hK _ _ h
  |some o=>
    simp only[ho] at h ⊢
    by_cases hwt:Region.wanted o (yielded ops a.tmps)=true
    · simp only[hwt,if_true] at h ⊢
      rcases h with h|h
      · refine⟨λ_ _=>trivial,?_⟩
        rw[Oper.semAt_eq _ _ _ (hd o ho)]
        unfold Oper.wp at h
        generalize (execOp a.eval o).run P w=r at h ⊢
        cases r with
        |ok nx w'=>
          cases nx<;>simp only[Oper.upon] at h<;>simp only[Oper.uponIn]<;>first
            |exact hK _ _ h
            |exact h.elim
            |exact⟨λe=>by simp[Fence.wide] at e,rows_round l _ (Rows.mono h λ_ _=>hK _ _)⟩
            |(refine⟨λe=>by simp[Fence.wide] at e,calls_round l _ (Calls.mono h ?_)⟩;intro e w'' he;cases e<;>first|exact hK _ _ he|exact he)
        |halt x w'=>cases x<;>first|exact h|exact h.elim
      · exact absurd h.2 hL
    · simp only[hwt] at h ⊢
      exact⟨λ_ _=>trivial,hK _ _ h⟩
theorem anyIn_of {l n:Nat}{P:Program}{md:Region.Mode}{ops:Array Oper}{Q:Exit->Act->World->Prop}(hd:∀(i:Nat) (o:Oper),ops[i]? =some o->∀c,o.op≠.defer c)(hL:¬LetsOut Q):∀(fuel:Nat) (listed:Array Bool) (a:Act) (w:World),
    wpAny P md ops Q fuel listed a w->wpAnyIn (Fence.wide.inRound l) n P md ops Q fuel listed a w
  |0,_,_,_,h=>h
  |fuel+1,_,_,_,h=>⟨h.1,λi hi=>opIn_of (hd i) hL (λa' w'=>anyIn_of hd hL fuel _ a' w') (h.2 i hi)⟩
theorem wpIn_round_held {l n:Nat}{P:Program}{id:Nat}{Q:Exit->Act->World->Prop}{S:World->Prop}{a:Act}{w:World}{ol:List Oper}(hm:P.follows .mixedOrders=true)(hd:noDefer ol=true)(hL:¬LetsOut Q)(hS:S w.drew)(h:S w.drew->wpAnyH P .any ol.toArray Q S ol.toArray.size (Array.replicate ol.toArray.size false) a w.drew):(Code.region id ol.toArray true).wpIn (Fence.wide.inRound l) n P Q a w:=
  wpIn_region_any hm (anyIn_of (λ_ _ ho=>noDefer_spec hd ho) hL _ _ _ _ (wpAny_of_held _ _ _ _ (h hS)))
theorem wpIn_round_owed {l n:Nat}{P:Program}{id:Nat}{ol:List Oper}(ops':Array Oper)(L:Nat)(st:Oper){Q:Exit->Act->World->Prop}{S:World->Prop}{a:Act}{w:World}(hm:P.follows .mixedOrders=true)(hdf:noDefer ol=true)(hL:¬LetsOut Q)(h1:ol.toArray[L]? =some st)(hd:st.dst=none)(hg:st.guard=none)(hsz:ol.toArray.size=L+1)(hlt:∀(i:Nat) (o:Oper) (e:Edge),ol.toArray[i]? =some o->e∈o.after->e.on<i)(nxt:Nat->Nat)(hn:∀j,j<L->j<nxt j/\nxt j<=L/\∃o,ol.toArray[nxt j]? =some o/\∃e∈o.after,Region.binds .any e=true/\e.on=j)(he:ops'=ol.toArray.setIfInBounds L (nop st))(hS:S w.drew)(h:S w.drew->wpAnyH P .any ops' (Owed P st Q) S ops'.size (Array.replicate ops'.size false) a w.drew):(Code.region id ol.toArray true).wpIn (Fence.wide.inRound l) n P Q a w:=by
  have h':=wpAny_of_held _ _ _ _ (h hS)
  subst he
  rw[Array.size_setIfInBounds] at h'
  refine wpIn_region_any hm (anyIn_of (λ_ _ ho=>noDefer_spec hdf ho) hL _ _ _ _ (wpAny_owed h1 hd hg hsz hlt nxt hn _ _ _ _ (by simp) ?_ ?_ h'))
  · have:L<ol.toArray.size:=by omega
    simp only[Array.getD_eq_getD_getElem?,Array.getElem?_replicate,this,if_true,Option.getD_some]
  · intro i o e hi
    by_cases hh:i<ol.toArray.size
    · simp only[Array.getD_eq_getD_getElem?,Array.getElem?_replicate,hh,if_true,Option.getD_some] at hi
      cases hi
    · simp only[Array.getD_eq_getD_getElem?,Array.getElem?_replicate,hh,if_false,Option.getD_none] at hi
      cases hi
theorem addr_addN (g o n:Nat):(⟨g,o,none⟩:Addr).add n=⟨g,o+n,none⟩:=by
  unfold Addr.add
  by_cases h:n=0
  · subst h;simp
  · simp[h]
theorem info49b:(prog.info? 49).map (λi=>(i.zero,i.size,i.bytes))=some (some (.agg #[.string ⟨#[]⟩,.string ⟨#[]⟩,.string ⟨#[]⟩]),3,48):=by kernel_rfl
theorem src_edits {w:World}{a:Option Addr}{n cap:Nat}{l:List Ed}(h:EditsAt w (.slice a n cap) l)(hn:0<n):∃ad,a=some ad/\∀j v,(l.flatMap cE)[j]? =some v->w.cell? (ad.add j)=some v:=by
  rcases h with ⟨_,a',cap',hv⟩|⟨b,off,cap',hv,_,h0,h1,h2⟩
  · cases hv;omega
  · cases hv
    refine⟨_,rfl,λj v hj=>?_⟩
    have hjl:j<l.length*3:=by
      have:=(List.getElem?_eq_some_iff.1 hj).1
      rwa [flat_len cE 3 (λ_=>rfl)] at this
    have e:j=j/3*3+j%3:=by omega
    have hi:j/3<l.length:=by omega
    have hg:=flat_get cE 3 (λ_=>rfl) l (j/3) (j%3) hi (by omega)
    rw[<-e,hj] at hg
    have hadd:=addr_addN b off j
    rw[hadd]
    rcases (show j%3=0\/j%3=1\/j%3=2 by omega) with h3|h3|h3
    · rw[h3] at hg
      have hv:v=.string l[j/3].1:=by simpa[cE] using hg
      have:=h0 (j/3) hi
      rw[hv,<-this];congr 2;omega
    · rw[h3] at hg
      have hv:v=.string l[j/3].2.1:=by simpa[cE] using hg
      have:=h1 (j/3) hi
      rw[hv,<-this];congr 2;omega
    · rw[h3] at hg
      have hv:v=.string l[j/3].2.2:=by simpa[cE] using hg
      have:=h2 (j/3) hi
      rw[hv,<-this];congr 2;omega
theorem one_flatE (l:List Ed):∀v∈l.flatMap cE,v.oneCell'=true:=by
  intro v hv
  obtain⟨f,_,hf⟩:=List.mem_flatMap.1 hv
  simp[cE] at hf
  rcases hf with rfl|rfl|rfl<;>rfl
theorem Drew.trans {a b c:World}(h:Drew a b)(h':Drew b c):Drew a c:=by
  obtain⟨n,rfl⟩:=h
  obtain⟨m,rfl⟩:=h'
  exact .two _ _ _
theorem drew_row {w w':World}(h:Drew w w'){base:Nat}{e:TypeId}{size:Nat}{v:Value}{n:Nat}{xs:List Value}(hr:w.ownsRow base e size v n xs):w'.ownsRow base e size v n xs:=by
  obtain⟨n,rfl⟩:=h;exact hr
theorem drew_below {a w w':World}{B:Nat}(h:Drew w w')(hb:Below B a w):Below B a w':=by
  obtain⟨n,rfl⟩:=h;exact hb.trans ⟨rfl,rfl,rfl,Nat.le_refl _,λ_ _=>rfl⟩
theorem row_snoc {w:World}{base:Nat}{e:TypeId}{v:Value}{n:Nat}{ss:List Fl}{f:Fl}(hn:n=ss.length)(h:w.ownsRow base e 2 v (n+1) (ss.flatMap cF++[.string f.1,.string f.2])):w.ownsRow base e 2 v (ss++[f]).length ((ss++[f]).flatMap cF):=by
  subst hn
  have e1:(ss++[f]).length=ss.length+1:=by simp
  have e2:(ss++[f]).flatMap cF=ss.flatMap cF++[.string f.1,.string f.2]:=by simp[cF]
  rw[e1,e2];exact h
theorem room_base {w wr:World}(h:w.heap.size<=wr.heap.size)(o:Obj):w.heap.size<=(wr.alloc o).heap.size:=by simp;omega
def but (p:ByteArray)(l:List Fl):List Fl:=l.filter λf=> !(f.1.toList==p.toList)
def withOne (l:List Fl)(e:Ed):List Fl:=but e.1 l++if e.2.2.toList.isEmpty then [] else [(e.1,e.2.2)]
def withL (l:List Fl)(es:List Ed):List Fl:=es.foldl withOne l
theorem withL_snoc (l:List Fl)(es:List Ed)(e:Ed):withL l (es++[e])=withOne (withL l es) e:=by simp[withL,List.foldl_append]
theorem but_len (p:ByteArray)(l:List Fl):(but p l).length<=l.length:=List.length_filter_le _ _
theorem withOne_len (l:List Fl)(e:Ed):(withOne l e).length<=l.length+1:=by
  unfold withOne
  have:=but_len e.1 l
  rw[List.length_append]
  split<;>simp<;>omega
theorem withL_len (l:List Fl)(es:List Ed):(withL l es).length<=l.length+es.length:=by
  induction es generalizing l with
  |nil=>simp[withL]
  |cons e es ih=>
    have h1:=ih (withOne l e)
    have h2:=withOne_len l e
    show (withL (withOne l e) es).length<=_
    simp only[List.length_cons];omega
theorem but_hit (p:ByteArray){l:List Fl}{j:Nat}(hj:j<l.length)(h:(!(l[j].1.toList==p.toList))=true):but p (l.take (j+1))=but p (l.take j)++[l[j]]:=by
  unfold but
  rw[List.take_succ_eq_append_getElem hj,List.filter_append,List.filter_cons,if_pos h,List.filter_nil]
theorem but_miss (p:ByteArray){l:List Fl}{j:Nat}(hj:j<l.length)(h:(!(l[j].1.toList==p.toList))=false):but p (l.take (j+1))=but p (l.take j):=by
  unfold but
  rw[List.take_succ_eq_append_getElem hj,List.filter_append,List.filter_cons,if_neg (by rw[h];exact Bool.false_ne_true),List.filter_nil,List.append_nil]
theorem room48 {n:Nat}(h:n<=1000):(n+1)*48<=140737488355328:=Nat.le_trans (Nat.mul_le_mul_right 48 (show n+1<=1001 by omega)) (by decide)
theorem roomlen {n:Nat}(h:n<=1000):n+1<=maxLen:=by unfold maxLen;omega
theorem step_append_own {P:Program}{ops:Array Oper}{o:Oper}{a:Act}{w:World}{K:Act->World->Prop}{Q:Exit->Act->World->Prop}{E:Prop}(hg:o.guard=none)(s x:Operand)(t:TypeId)(ho:o.op=Op.call {callee:=Callee.builtin Builtin.append,args:=#[s,x],argTypes:=#[t,t]})(base:Nat)(e:TypeId)(i:TypeInfo)(z:Value)(size bytes:Nat)(ht:P.underlying t=some (.slice e))(hi:P.info? e=some i)(hz:i.zero=some z)(hsize:i.size=size)(hby:i.bytes=bytes)(hzs:z.cells.size=size)(hsz:0<size)(v:Value)(n:Nat)(xs:List Value)(hs:a.eval s=v)(hown:w.ownsRow base e size v n xs)(ad:Addr)(m c:Nat)(news:List Value)(hx:a.eval x=.slice (some ad) m c)(hl:news.length=m*size)(hnews:∀j u,news[j]? =some u->w.cell? (ad.add j)=some u)(h1:∀u∈news,u.oneCell'=true)(h63:n+m<=maxLen)(hbytes:(n+m)*bytes<=140737488355328)(hbase:base<=w.heap.size)(hK:∀v' w',w'.ownsRow base e size v' (n+m) (xs++news)->w.grownBy w' v.ownBlock->K (a.put o.dst v') w'):
    if Region.wanted o (yielded ops a.tmps)=true then Oper.wp P o a w K Q else E:=by
  have hw:Region.wanted o (yielded ops a.tmps)=true:=by simp[Region.wanted,hg]
  rw[if_pos hw]
  exact wp_append_own w s x t ho base e i z size bytes ht hi hz hsize hby hzs hsz v n xs hs hown ad m c news hx hl hnews h1 h63 hbytes hbase λv' w' h2 h3 _=>hK v' w' h2 h3
theorem below_app {wo wr w3:World}{nq n size:Nat}{e:TypeId}{o:Obj}{v:Value}{xs:List Value}(hb:Below wo.heap.size wo wr)(hrow:wr.ownsRow wo.heap.size e size v n xs)(hg:((wr.alloc o).drewN nq).grownBy w3 v.ownBlock):Below wo.heap.size wo w3:=
  (drew_below (.one _ nq) (hb.alloc hb.size o)).grown hg (by show wo.heap.size<=(wr.alloc o).heap.size;have:=hb.size;simp;omega) (λj hj=>(hrow.lt j hj).1)
theorem cells_app {wo wr w3:World}{n size b o1 o2:Nat}{e:TypeId}{o:Obj}{v u1 u2:Value}{xs:List Value}(hlt:b<wo.heap.size)(hrow:wr.ownsRow wo.heap.size e size v n xs)(hg:(wr.alloc o).drew.grownBy w3 v.ownBlock)(h1:wr.cell? ⟨b,o1,none⟩=some u1)(h2:wr.cell? ⟨b,o2,none⟩=some u2):w3.cell? ⟨b,o1,none⟩=some u1/\w3.cell? ⟨b,o2,none⟩=some u2:=by
  have hne:some b≠v.ownBlock:=λh=>by have:=(hrow.lt b h.symm).1;omega
  have g:=World.grownBy_alloc wr o none
  have k1:(wr.alloc o).drew.cell? ⟨b,o1,none⟩=some u1:=g.cell h1 (by simp)
  have k2:(wr.alloc o).drew.cell? ⟨b,o2,none⟩=some u2:=g.cell h2 (by simp)
  exact⟨hg.cell k1 hne,hg.cell k2 hne⟩
def newB:ByteArray:=⟨#[110,101,119]⟩
def xB:ByteArray:=⟨#[120]⟩
def noB:ByteArray:=⟨#[]⟩
theorem pathB_data {k:Nat}(h:k<26):(pathB k).data.toList=[UInt8.ofNat (97+k),97,97]:=by
  unfold pathB
  rw[strOfNums_data]
  have e1:(97+(k:Int)%26).toNat=97+k:=by omega
  have e2:(97+(k:Int)/26%26).toNat=97:=by omega
  have e3:(97+(k:Int)/676).toNat=97:=by omega
  simp only[List.map_cons,List.map_nil,e1,e2,e3]
  rfl
theorem pathB_size {k:Nat}(h:k<26):(pathB k).size=3:=by rw[Lib.size_eq,pathB_data h];rfl
theorem pathB_lt {j k:Nat}(hj:j<k)(hk:k<26):(pathB j).data.toList<(pathB k).data.toList:=by
  rw[pathB_data hk,pathB_data (Nat.lt_trans hj hk),List.cons_lt_cons_iff]
  left
  rw[UInt8.lt_iff_toNat_lt]
  simp only[UInt8.toNat_ofNat']
  omega
theorem pathB_ne {j k:Nat}(hj:j<k)(hk:k<26):pathB j≠pathB k:=λe=>by
  have:=pathB_lt hj hk
  rw[e] at this
  exact List.lt_irrefl _ this
theorem pathB_new {k:Nat}(h:k<26):pathB k≠newB:=λe=>by
  have h1:=pathB_data h
  rw[e] at h1
  have h2:newB.data.toList=[110,101,119]:=rfl
  rw[h2] at h1
  have h3:=List.cons.inj h1
  have h4:=List.cons.inj h3.2
  exact absurd h4.1 (by decide)
theorem shortB_size (s:ByteArray):(shortB s).size<=8:=by
  unfold shortB
  split
  · rw[ByteArray.size_extract];omega
  · omega
theorem shortB_pos {s:ByteArray}(h:s.toList.isEmpty=false):1<=(shortB s).size:=by
  have h1:s.size≠0:=λe=>by
    rw[Lib.size_eq] at e
    have:=List.length_eq_zero_iff.1 e
    rw[Lib.toList_data,this] at h
    simp at h
  unfold shortB
  split
  · rw[ByteArray.size_extract];omega
  · omega
def filesTo (bs:List ByteArray):Nat->List Fl
  |0=>[]
  |k+1=>filesTo bs k++if (bs.getD k noB).toList.isEmpty then [] else [(pathB k,shortB (bs.getD k noB))]
theorem filesTo_hit {bs:List ByteArray}{k:Nat}(hk:k<bs.length)(h:bs[k].toList.isEmpty=false):filesTo bs (k+1)=filesTo bs k++[(pathB k,shortB bs[k])]:=by
  have e:bs.getD k noB=bs[k]:=by simp[List.getD,hk]
  show filesTo bs k++_=_
  rw[e,h];rfl
theorem filesTo_miss {bs:List ByteArray}{k:Nat}(hk:k<bs.length)(h:bs[k].toList.isEmpty=true):filesTo bs (k+1)=filesTo bs k:=by
  have e:bs.getD k noB=bs[k]:=by simp[List.getD,hk]
  show filesTo bs k++_=_
  rw[e,h];exact List.append_nil _
def FInv (k:Nat)(l:List Fl):Prop:=Rising l/\(∀f∈l,okFl f=true)/\(∀f∈l,∃j,j<k/\f.1=pathB j)/\l.length<=k
theorem finv (bs:List ByteArray):∀k,k<=26->FInv k (filesTo bs k)
  |0,_=>⟨List.Pairwise.nil,by simp[filesTo],by simp[filesTo],Nat.le_refl _⟩
  |k+1,hk=>by
    obtain⟨h1,h2,h3,h4⟩:=finv bs k (by omega)
    have mono:∀f∈filesTo bs k,∃j,j<k+1/\f.1=pathB j:=λf hf=>by
      obtain⟨j,hj,e⟩:=h3 f hf
      exact⟨j,by omega,e⟩
    cases h:(bs.getD k noB).toList.isEmpty
    · have e:filesTo bs (k+1)=filesTo bs k++[(pathB k,shortB (bs.getD k noB))]:=by
        show filesTo bs k++_=_
        rw[h];rfl
      rw[e]
      refine⟨List.pairwise_append.2 ⟨h1,List.pairwise_singleton _ _,λx hx y hy=>?_⟩,λf hf=>?_,λf hf=>?_,by simp;omega⟩
      · rw[List.mem_singleton.1 hy]
        obtain⟨j,hj,ej⟩:=h3 x hx
        rw[ej];exact pathB_lt hj (by omega)
      · rcases List.mem_append.1 hf with hf|hf
        · exact h2 f hf
        · rw[List.mem_singleton.1 hf,okFl_iff]
          have:=pathB_size (k:=k) (by omega)
          exact⟨⟨by show 1<=(pathB k).size;omega,by show (pathB k).size<=8;omega⟩,shortB_pos h,shortB_size _⟩
      · rcases List.mem_append.1 hf with hf|hf
        · exact mono f hf
        · rw[List.mem_singleton.1 hf];exact⟨k,by omega,rfl⟩
    · have e:filesTo bs (k+1)=filesTo bs k:=by
        show filesTo bs k++_=_
        rw[h];exact List.append_nil _
      rw[e]
      exact⟨h1,h2,mono,by omega⟩
def swapE (e:Ed):Ed:=(e.1,e.2.2,e.2.1)
def editTo (fs:List Fl)(ns:List ByteArray):Nat->List Ed
  |0=>[(newB,noB,xB)]
  |k+1=>editTo fs ns k++if (standsL fs (pathB k)).toList==(shortB (ns.getD k noB)).toList then [] else [(pathB k,standsL fs (pathB k),shortB (ns.getD k noB))]
theorem editTo_hit {fs:List Fl}{ns:List ByteArray}{k:Nat}(hk:k<ns.length)(h:(!((standsL fs (pathB k)).toList==(shortB ns[k]).toList))=true):editTo fs ns (k+1)=editTo fs ns k++[(pathB k,standsL fs (pathB k),shortB ns[k])]:=by
  have e:ns.getD k noB=ns[k]:=by simp[List.getD,hk]
  have h':((standsL fs (pathB k)).toList==(shortB ns[k]).toList)=false:=by simpa using h
  show editTo fs ns k++_=_
  rw[e,h'];rfl
theorem editTo_miss {fs:List Fl}{ns:List ByteArray}{k:Nat}(hk:k<ns.length)(h:(!((standsL fs (pathB k)).toList==(shortB ns[k]).toList))=false):editTo fs ns (k+1)=editTo fs ns k:=by
  have e:ns.getD k noB=ns[k]:=by simp[List.getD,hk]
  have h':((standsL fs (pathB k)).toList==(shortB ns[k]).toList)=true:=by simpa using h
  show editTo fs ns k++_=_
  rw[e,h'];exact List.append_nil _
def EInv (fs:List Fl)(k:Nat)(E:List Ed):Prop:=
  (∀e∈E,okEd e=true/\standsL fs e.1=e.2.1/\(e.1=newB\/∃j,j<k/\e.1=pathB j))/\Apart Prod.fst E/\(newB,noB,xB)∈E/\E.length<=k+1
theorem stands_size {k:Nat}{l:List Fl}(h:FInv k l)(q:ByteArray):(standsL l q).size<=8:=by
  by_cases e:standsL l q=⟨#[]⟩
  · rw[e];decide
  · have:=h.2.1 _ (standsL_found e)
    exact((okFl_iff _).1 this).2.2
theorem stands_new {k:Nat}(hk:k<=26){l:List Fl}(h:FInv k l):standsL l newB=noB:=
  standsL_none λf hf e=>by
    obtain⟨j,hj,ej⟩:=h.2.2.1 f hf
    exact pathB_new (by omega) (ej.symm.trans e)
theorem einv {K:Nat}(hK:K<=26){fs:List Fl}(hf:FInv K fs)(ns:List ByteArray):∀k,k<=3->EInv fs k (editTo fs ns k)
  |0,_=>by
    refine⟨λe he=>?_,List.pairwise_singleton _ _,by simp[editTo],by simp[editTo]⟩
    rw[show e=(newB,noB,xB) from by simpa[editTo] using he]
    exact⟨(okEd_iff _).2 ⟨⟨by decide,by decide⟩,by decide,by decide,λe=>absurd (congrArg ByteArray.size e) (by decide)⟩,stands_new hK hf,.inl rfl⟩
  |k+1,hk=>by
    obtain⟨h1,h2,h3,h4⟩:=einv hK hf ns k (by omega)
    have mono:∀e∈editTo fs ns k,okEd e=true/\standsL fs e.1=e.2.1/\(e.1=newB\/∃j,j<k+1/\e.1=pathB j):=λe he=>by
      obtain⟨a,b,c⟩:=h1 e he
      refine⟨a,b,?_⟩
      rcases c with c|⟨j,hj,c⟩
      · exact .inl c
      · exact .inr ⟨j,by omega,c⟩
    cases h:((standsL fs (pathB k)).toList==(shortB (ns.getD k noB)).toList)
    · have e:editTo fs ns (k+1)=editTo fs ns k++[(pathB k,standsL fs (pathB k),shortB (ns.getD k noB))]:=by
        show editTo fs ns k++_=_
        rw[h];rfl
      rw[e]
      refine⟨λx hx=>?_,List.pairwise_append.2 ⟨h2,List.pairwise_singleton _ _,λx hx y hy=>?_⟩,by simp[h3],by simp;omega⟩
      · rcases List.mem_append.1 hx with hx|hx
        · exact mono x hx
        · rw[List.mem_singleton.1 hx]
          refine⟨(okEd_iff _).2 ?_,rfl,.inr ⟨k,by omega,rfl⟩⟩
          have:=pathB_size (k:=k) (by omega)
          exact⟨⟨by show 1<=(pathB k).size;omega,by show (pathB k).size<=8;omega⟩,stands_size hf _,shortB_size _,(beq_false_iff _ _).1 h⟩
      · rw[List.mem_singleton.1 hy]
        rcases (h1 x hx).2.2 with c|⟨j,hj,c⟩
        · rw[c];exact(pathB_new (by omega)).symm
        · rw[c];exact pathB_ne hj (by omega)
    · have e:editTo fs ns (k+1)=editTo fs ns k:=by
        show editTo fs ns k++_=_
        rw[h];exact List.append_nil _
      rw[e]
      exact⟨mono,h2,h3,by omega⟩
theorem rising_good {k:Nat}{l:List Fl}(h:FInv k l):Good okFl Prod.fst l:=⟨h.2.1,h.1.apart⟩
theorem files_told {k:Nat}{l:List Fl}(h:FInv k l):Told l (standsL l):=
  ⟨h.1,λf hf e=>by have:=((okFl_iff f).1 (h.2.1 f hf)).2.1;rw[e] at this;exact absurd this (by decide),λ_=>rfl⟩
theorem einv_ok {fs:List Fl}{E:List Ed}(h:EInv fs 3 E):EditsOK E:=
  ⟨List.length_pos_of_mem h.2.2.1,h.2.2.2,λe he=>(h.1 e he).1,h.2.1⟩
theorem swap_ok {fs:List Fl}{E:List Ed}(h:EInv fs 3 E):EditsOK (E.map swapE):=by
  refine⟨by rw[List.length_map];exact List.length_pos_of_mem h.2.2.1,by rw[List.length_map];exact h.2.2.2,λe he=>?_,?_⟩
  · obtain⟨x,hx,rfl⟩:=List.mem_map.1 he
    obtain⟨a,b,c,d⟩:=(okEd_iff x).1 (h.1 x hx).1
    exact(okEd_iff _).2 ⟨a,c,b,d.symm⟩
  · exact List.pairwise_map.2 h.2.1
theorem made_good {k:Nat}{fs:List Fl}{E:List Ed}(hf:FInv k fs)(h:EInv fs 3 E){made:List Fl}(hm:Told made (edited (standsL fs) E)):Good okFl Prod.fst made:=by
  refine⟨λf hf'=>?_,hm.1.apart⟩
  obtain⟨h1,h2⟩:=(hm.mem f).1 hf'
  have hne:1<=f.2.size:=by
    rcases Nat.eq_zero_or_pos f.2.size with e|e
    · exact absurd (eq_of_data (List.length_eq_zero_iff.1 (by rw[<-Lib.size_eq];exact e))) h2
    · exact e
  by_cases hin:∃e∈E,e.1=f.1
  · obtain⟨e,he,ee⟩:=hin
    have h3:=edited_mem (g:=standsL fs) h.2.1 he
    rw[ee,h1] at h3
    obtain⟨a,_,c,_⟩:=(okEd_iff e).1 (h.1 e he).1
    rw[ee] at a
    rw[<-h3] at c
    exact(okFl_iff f).2 ⟨a,hne,c⟩
  · rw[edited_other λe he ee=>hin ⟨e,he,ee⟩] at h1
    have h3:=standsL_found (l:=fs) (q:=f.1) (by rw[h1];exact h2)
    rw[h1] at h3
    exact hf.2.1 f h3
theorem made_stands {fs:List Fl}{E:List Ed}(h:EInv fs 3 E){made:List Fl}(hm:Told made (edited (standsL fs) E)):∀x∈E.map swapE,standsL made x.1=x.2.1:=by
  intro x hx
  obtain⟨e,he,rfl⟩:=List.mem_map.1 hx
  show standsL made e.1=e.2.2
  rw[hm.2.2];exact edited_mem h.2.1 he
theorem back_again {k:Nat}{fs:List Fl}{E:List Ed}(hf:FInv k fs)(h:EInv fs 3 E){made again:List Fl}(hm:Told made (edited (standsL fs) E))(ha:Told again (edited (standsL made) (E.map swapE))):again=fs:=by
  refine Told.unique (g:=standsL fs) ⟨ha.1,ha.2.1,λq=>?_⟩ (files_told hf)
  rw[ha.2.2]
  have hs:Apart Prod.fst (E.map swapE):=List.pairwise_map.2 h.2.1
  by_cases hin:∃e∈E,e.1=q
  · obtain⟨e,he,rfl⟩:=hin
    have:=edited_mem (g:=standsL made) hs (List.mem_map.2 ⟨e,he,rfl⟩)
    rw[show (swapE e).1=e.1 from rfl] at this
    rw[this]
    exact(h.1 e he).2.1.symm
  · rw[edited_other (λx hx ex=>by
      obtain⟨e,he,rfl⟩:=List.mem_map.1 hx
      exact hin ⟨e,he,ex⟩),hm.2.2]
    exact edited_other λe he ee=>hin ⟨e,he,ee⟩
theorem back_not {k:Nat}(hk:k<=26){fs:List Fl}{E:List Ed}(hf:FInv k fs)(h:EInv fs 3 E):¬∀x∈E.map swapE,standsL fs x.1=x.2.1:=λhall=>by
  have h1:=hall _ (List.mem_map.2 ⟨_,h.2.2.1,rfl⟩)
  have h2:standsL fs newB=xB:=h1
  rw[stands_new hk hf] at h2
  exact absurd (congrArg ByteArray.size h2) (by decide)
theorem but_apart {l:List Fl}(h:Apart Prod.fst l)(p:ByteArray):Apart Prod.fst (but p l):=List.Pairwise.sublist List.filter_sublist h
theorem mem_but {l:List Fl}{p:ByteArray}{f:Fl}:f∈but p l↔f∈l/\f.1≠p:=by
  unfold but
  rw[List.mem_filter,Bool.not_eq_true',beq_false_iff]
def Full (l:List Fl):Prop:=∀f∈l,f.2≠⟨#[]⟩
theorem withOne_inv {l:List Fl}(ha:Apart Prod.fst l)(hn:Full l)(e:Ed):Apart Prod.fst (withOne l e)/\Full (withOne l e)/\∀q,standsL (withOne l e) q=upd (standsL l) e.1 e.2.2 q:=by
  have hmem:∀f,f∈withOne l e↔(f∈l/\f.1≠e.1)\/(f=(e.1,e.2.2)/\e.2.2≠⟨#[]⟩):=λf=>by
    unfold withOne
    rw[List.mem_append,mem_but]
    cases h:e.2.2.toList.isEmpty
    · have:e.2.2≠⟨#[]⟩:=λx=>by rw[(empty_iff _).2 x] at h;cases h
      simp[this]
    · have:=(empty_iff _).1 h
      simp[this]
  have hap:Apart Prod.fst (withOne l e):=by
    unfold withOne
    refine List.pairwise_append.2 ⟨but_apart ha _,by split<;>simp,λx hx y hy=>?_⟩
    have h1:=(mem_but.1 hx).2
    split at hy
    · simp at hy
    · rw[List.mem_singleton.1 hy];exact h1
  have hfu:Full (withOne l e):=λf hf=>by
    rcases (hmem f).1 hf with ⟨h,_⟩|⟨rfl,h⟩
    · exact hn f h
    · exact h
  refine⟨hap,hfu,λq=>?_⟩
  by_cases hq:e.1=q
  · subst hq
    rw[upd_same]
    by_cases he:e.2.2=⟨#[]⟩
    · rw[he]
      refine standsL_none λf hf ef=>?_
      rcases (hmem f).1 hf with ⟨_,h⟩|⟨_,h⟩
      · exact h ef
      · exact h he
    · exact standsL_mem hap ((hmem _).2 (.inr ⟨rfl,he⟩))
  · rw[upd_other _ _ hq]
    by_cases hs:standsL l q=⟨#[]⟩
    · rw[hs]
      refine standsL_none λf hf ef=>?_
      rcases (hmem f).1 hf with ⟨h,_⟩|⟨h,_⟩
      · have:=standsL_mem ha h
        rw[ef,hs] at this
        exact hn f h this.symm
      · rw[h] at ef;exact hq ef
    · exact standsL_mem hap ((hmem (q,standsL l q)).2 (.inl ⟨standsL_found hs,λx=>hq x.symm⟩))
theorem withL_inv {l:List Fl}(ha:Apart Prod.fst l)(hn:Full l)(es:List Ed):Apart Prod.fst (withL l es)/\Full (withL l es)/\∀q,standsL (withL l es) q=edited (standsL l) es q:=by
  induction es generalizing l with
  |nil=>exact⟨ha,hn,λ_=>rfl⟩
  |cons e es ih=>
    obtain⟨h1,h2,h3⟩:=withOne_inv ha hn e
    obtain⟨k1,k2,k3⟩:=ih h1 h2
    refine⟨k1,k2,λq=>?_⟩
    show standsL (withL (withOne l e) es) q=edited (upd (standsL l) e.1 e.2.2) es q
    rw[k3,show standsL (withOne l e)=upd (standsL l) e.1 e.2.2 from funext h3]
theorem want_alike {k:Nat}{fs:List Fl}{E:List Ed}(hf:FInv k fs){made:List Fl}(hm:Told made (edited (standsL fs) E)):(withL fs E).length=made.length/\∀i (h:i<made.length),standsL (withL fs E) made[i].1=made[i].2:=by
  obtain⟨h1,h2,h3⟩:=withL_inv hf.1.apart (files_told hf).2.1 E
  constructor
  · have hp:(withL fs E).Perm made:=(List.perm_ext_iff_of_nodup h1.nodup hm.1.apart.nodup).2 λf=>by rw[mem_iff_stands h1 h2,hm.mem,h3]
    exact hp.length_eq
  · intro i h
    rw[h3]
    exact((hm.mem _).1 (List.getElem_mem h)).1
def touch (es:List Ed)(p:ByteArray):Bool:=es.any λe=>e.1.toList==p.toList
def keep (es:List Ed)(l:List Fl):List Fl:=l.filter λf=> !touch es f.1
def newOne (e:Ed):List Fl:=if e.2.2.toList.isEmpty then [] else [(e.1,e.2.2)]
def news (es:List Ed):List Fl:=es.flatMap newOne
end Go.Proofs.YtgamgomepdfgdaaGreat
