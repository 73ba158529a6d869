import Derived.OrdersIn
import Derived.Deep.Quiet
import Derived.Sort.CutIn
import Derived.Test.YtgamgomepdfgdaaGreatFM17
import Derived.Test.YtgamgomepdfgdaaGreatFM18
set_option maxRecDepth 100000
set_option maxHeartbeats 8000000
namespace Go.Proofs.YtgamgomepdfgdaaGreat
open Go.RowKit Go.Proofs.Tryz
theorem lets_out {Q Q':Exit->Act->World->Prop}(hq:∀e a w,e≠.normal->Q e a w->Q' e a w)(h:LetsOut Q):LetsOut Q':=by
  obtain⟨a,w,h⟩:=h
  exact⟨a,w,hq _ _ _ (by simp) h⟩
theorem wp_both {P:Program}{o:Oper}{a:Act}{w:World}{K K':Act->World->Prop}{Q Q':Exit->Act->World->Prop}(h:∀a w,K a w->K' a w)(hq:∀e a w,e≠.normal->Q e a w->Q' e a w)(hh:o.wp P a w K Q):o.wp P a w K' Q':=by
  unfold Oper.wp at *
  generalize (execOp a.eval o).run P w=r at *
  cases r with
  |ok n w'=>
    cases n<;>simp only[Oper.upon] at hh ⊢<;>
      first
        |exact h _ _ hh
        |exact hq _ _ _ (by simp) hh
        |exact Calls.mono hh (λe w'' he=>by cases e<;>first|exact h _ _ he|exact hq _ _ _ (by simp) he|exact lets_out hq he|exact he)
        |exact Rows.mono hh (λ_ _ he=>h _ _ he)
        |exact hh
  |halt x w'=>cases x<;>simp only[Oper.upon] at hh ⊢<;>first|exact hh|exact hq _ _ _ (by simp) hh|exact lets_out hq hh
def nop (st:Oper):Oper:={st with op:=.move (.const (.bool true)),dst:=none}
theorem nop_wp {P:Program}{st:Oper}{a:Act}{w:World}{K:Act->World->Prop}{Q:Exit->Act->World->Prop}(h:(nop st).wp P a w K Q):K a w:=by
  unfold Oper.wp at h
  simpa[nop,execOp,Oper.upon,Act.put,Act.eval] using h
def Owed (P:Program)(st:Oper)(Q:Exit->Act->World->Prop):Exit->Act->World->Prop
  |.normal,a,w=>st.wp P a w (λa' w'=>Q .normal a' w') Q
  |e,a,w=>Q e a w
theorem Owed.other {P:Program}{st:Oper}{Q:Exit->Act->World->Prop}:∀e a w,e≠.normal->Owed P st Q e a w->Q e a w:=λe a w he h=>by
  cases e<;>first|exact absurd rfl he|exact h
def Shutd (md:Region.Mode)(ops:Array Oper)(listed:Array Bool):Prop:=
  ∀(i:Nat) (o:Oper) (e:Edge),listed.getD i false=true->ops[i]? =some o->e∈o.after->Region.binds md e=true->listed.getD e.on false=true
theorem ready_some {md:Region.Mode}{ops:Array Oper}{listed:Array Bool}(hs:listed.size=ops.size)(hlt:∀(i:Nat) (o:Oper) (e:Edge),ops[i]? =some o->e∈o.after->e.on<i):∀(n j:Nat),j<=n->j<ops.size->listed.getD j true=false->Region.ready md ops listed≠[]
  |0,j,hj,hjs,h0=>by
    obtain rfl:j=0:=by omega
    refine List.ne_nil_of_mem (a:=0) (mem_ready.2 ⟨h0,ops[0],by simp[hjs],λe he _=>?_⟩)
    have:=hlt 0 ops[0] e (by simp[hjs]) he
    omega
  |n+1,j,hj,hjs,h0=>by
    by_cases hall:∀i,i<j->listed.getD i true=true
    · refine List.ne_nil_of_mem (a:=j) (mem_ready.2 ⟨h0,ops[j],by simp[hjs],λe he _=>?_⟩)
      have hl:=hlt j ops[j] e (by simp[hjs]) he
      have h1:=hall e.on hl
      have:e.on<listed.size:=by omega
      simpa[this] using h1
    · have ⟨i,hi⟩:=Classical.not_forall.1 hall
      obtain⟨hij,hi⟩:=Classical.not_imp.1 hi
      have hi':listed.getD i true=false:=by simpa using hi
      exact ready_some hs hlt n i (by omega) (by omega) hi'
theorem all_listed {md:Region.Mode}{ops:Array Oper}{listed:Array Bool}{L:Nat}(hsh:Shutd md ops listed)(hsz:ops.size=L+1)(hs:listed.size=ops.size)(nxt:Nat->Nat)(hn:∀j,j<L->j<nxt j/\nxt j<=L/\∃o,ops[nxt j]? =some o/\∃e∈o.after,Region.binds md e=true/\e.on=j)(hr:L∈Region.ready md ops listed):∀n j,L-j<=n->j<L->listed.getD j false=true
  |0,j,hj,hl=>by omega
  |n+1,j,hj,hl=>by
    obtain⟨h1,h2,o,ho,e,he,hb,rfl⟩:=hn j hl
    by_cases hL:nxt e.on=L
    · obtain⟨_,o',ho',hall⟩:=mem_ready.1 hr
      rw[hL,ho'] at ho
      cases ho
      exact hall e he hb
    · exact hsh _ o e (all_listed hsh hsz hs nxt hn hr n (nxt e.on) (by omega) (by omega)) ho he hb
theorem wpAny_owed {P:Program}{md:Region.Mode}{ops:Array Oper}{L:Nat}{st:Oper}{Q:Exit->Act->World->Prop}(h1:ops[L]? =some st)(hd:st.dst=none)(hg:st.guard=none)(hsz:ops.size=L+1)(hlt:∀(i:Nat) (o:Oper) (e:Edge),ops[i]? =some o->e∈o.after->e.on<i)(nxt:Nat->Nat)(hn:∀j,j<L->j<nxt j/\nxt j<=L/\∃o,ops[nxt j]? =some o/\∃e∈o.after,Region.binds md e=true/\e.on=j):
    ∀(fuel:Nat) (listed:Array Bool) (a:Act) (w:World),listed.size=ops.size->listed.getD L true=false->Shutd md ops listed->wpAny P md (ops.setIfInBounds L (nop st)) (Owed P st Q) fuel listed a w->wpAny P md ops Q fuel listed a w:=by
  have hLs:L<ops.size:=by omega
  have hready:∀listed,Region.ready md (ops.setIfInBounds L (nop st)) listed=Region.ready md ops listed:=λlisted=>by
    unfold Region.ready
    rw[Array.size_setIfInBounds]
    congr 1;funext i
    by_cases e:L=i
    · subst e
      rw[Array.getElem?_setIfInBounds,h1]
      simp[hLs,nop]
    · rw[Array.getElem?_setIfInBounds_ne e]
  have hyield:∀t,yielded (ops.setIfInBounds L (nop st)) t=yielded ops t:=λt=>by
    funext j
    unfold yielded
    by_cases e:L=j
    · subst e
      rw[Array.getElem?_setIfInBounds,h1]
      simp[hLs,nop,hd]
    · rw[Array.getElem?_setIfInBounds_ne e]
  intro fuel
  induction fuel with
  |zero=>
    intro listed a w hs hL _ h
    have h':=h.1
    rw[hready] at h'
    exact absurd h' (ready_some hs hlt L L (Nat.le_refl _) hLs hL)
  |succ fuel ih=>
    intro listed a w hs hL hsh h
    refine⟨λhe=>absurd he (ready_some hs hlt L L (Nat.le_refl _) hLs hL),λi hi=>?_⟩
    have h2:=h.2 i (by rw[hready];exact hi)
    by_cases e:i=L
    · subst e
      have hal:=λj hj=>all_listed hsh hsz hs nxt hn hi (i-j) j (Nat.le_refl _) hj
      have hnone:Region.ready md ops (listed.setIfInBounds i true)=[]:=by
        rcases hr:Region.ready md ops (listed.setIfInBounds i true) with _|⟨j,l⟩
        · rfl
        · have hm:j∈Region.ready md ops (listed.setIfInBounds i true):=by rw[hr];simp
          obtain⟨h0,o,ho,_⟩:=mem_ready.1 hm
          have hjs:=(Array.getElem?_eq_some_iff.1 ho).1
          by_cases hji:i=j
          · subst hji
            have:i<listed.size:=by omega
            simp[this] at h0
          · rw[getD_set_ne true hji] at h0
            have h3:=hal j (by omega)
            have:j<listed.size:=by omega
            simp[this] at h0 h3
            rw[h3] at h0;cases h0
      unfold wpOp at h2 ⊢
      rw[Array.getElem?_setIfInBounds] at h2
      simp only[hLs,if_true] at h2
      rw[h1]
      have hw:∀f,Region.wanted st f=true:=λf=>by simp[Region.wanted,hg]
      have hw':∀f,Region.wanted (nop st) f=true:=λf=>by simp[Region.wanted,nop,hg]
      simp only[hw,if_true]
      simp only[hw',if_true] at h2
      have key:∀a w,wpAny P md (ops.setIfInBounds i (nop st)) (Owed P st Q) fuel (listed.setIfInBounds i true) a w->Owed P st Q .normal a w:=λa w hh=>by
        cases fuel with
        |zero=>exact hh.2
        |succ n=>exact hh.1 (by rw[hready];exact hnone)
      rcases h2 with h2|⟨h2,h3⟩
      · have h4:Owed P st Q .normal a w:=key _ _ (nop_wp h2)
        refine .inl (wp_both (λa' w' hQ=>?_) (λ_ _ _ _ h=>h) h4)
        cases fuel with
        |zero=>exact⟨hnone,hQ⟩
        |succ n=>exact⟨λ_=>hQ,λk hk=>by rw[hnone] at hk;cases hk⟩
      · exfalso
        have h5:noRoomEvent∈(#[]:Array Event):=h2.1
        simp at h5
    · have hne:L≠i:=λx=>e x.symm
      have hin:∀a w,wpAny P md (ops.setIfInBounds L (nop st)) (Owed P st Q) fuel (listed.setIfInBounds i true) a w->wpAny P md ops Q fuel (listed.setIfInBounds i true) a w:=λa w hh=>by
        refine ih _ a w (by simpa using hs) (by rw[getD_set_ne true e];exact hL) (λk o x hk ho hx hb=>?_) hh
        by_cases hki:i=k
        · subst hki
          obtain⟨_,o',ho',hall⟩:=mem_ready.1 hi
          rw[ho'] at ho
          cases ho
          exact getD_set_true (hall x hx hb)
        · rw[getD_set_ne false hki] at hk
          exact getD_set_true (hsh k o x hk ho hx hb)
      unfold wpOp at h2 ⊢
      rw[Array.getElem?_setIfInBounds_ne hne] at h2
      cases ho:ops[i]? with
      |none=>rw[ho] at h2;exact hin _ _ h2
      |some o=>
        rw[ho] at h2
        simp only[hyield] at h2
        by_cases hw:Region.wanted o (yielded ops a.tmps)=true
        · simp only[hw,if_true] at h2 ⊢
          exact h2.imp (wp_both hin Owed.other) (λ⟨x,y⟩=>⟨x,lets_out Owed.other y⟩)
        · simp only[hw] at h2 ⊢
          exact hin _ _ h2
def noDefer (l:List Oper):Bool:=l.all λo=>match o.op with|.defer _=>false|_=>true
theorem noDefer_spec {l:List Oper}(h:noDefer l=true){i:Nat}{o:Oper}(ho:l.toArray[i]? =some o):∀c,o.op≠.defer c:=λc e=>by
  have hm:o∈l:=by
    rw[List.getElem?_toArray] at ho
    exact List.mem_of_getElem? ho
  have:=List.all_eq_true.1 h o hm
  rw[e] at this
  cases this
theorem calls_round {P:Program}{f:FuncId}{args:Array Value}{w:World}{R:Ending->World->Prop}(l n:Nat)(h:Calls P f args w R):CallsIn (Fence.wide.inRound l) n P f args w R:=CallsIn.inRound l (callsIn_wide.2 h)
theorem opIn_of_q {l n:Nat}{P:Program}{ops:Array Oper}{C:World->Prop}{Q:Exit->Act->World->Prop}{i:Nat}{K:Act->Prop}{K':Act->World->Prop}{a:Act}{w:World}(hd:∀o,ops[i]? =some o->∀c,o.op≠.defer c)(hw:C w)(hK:∀a w,C w->K a->K' a w)(h:qOp P ops C i K a):
    wpOpIn (Fence.wide.inRound l) n P ops Q i K' a w:=by
  unfold qOp at h
  unfold wpOpIn
  cases ho:ops[i]? with
  |none=>
    simp only[ho] at h ⊢
    exact hK _ _ hw h
  |some o=>
    simp only[ho] at h ⊢
    by_cases hwt:Region.wanted o (yielded ops a.tmps)=true
    · simp only[hwt,if_true] at h ⊢
      obtain⟨v,hv,hk⟩:=h
      have hq:=hv w hw
      unfold Oper.quietAt at hq
      refine⟨λ_ _=>trivial,?_⟩
      rw[Oper.semAt_eq _ _ _ (hd o ho)]
      generalize (execOp a.eval o).run P w=r at hq ⊢
      cases r with
      |ok nx w'=>
        cases nx<;>simp only[Oper.quietUpon] at hq<;>simp only[Oper.uponIn]
        case value=>obtain⟨rfl,rfl⟩:=hq;exact hK _ _ hw hk
        case skip=>obtain⟨rfl,rfl⟩:=hq;exact hK _ _ hw hk
        case enter=>
          obtain⟨rfl,hc⟩:=hq
          refine⟨λe=>by simp[Fence.wide] at e,calls_round l _ (hc.mono ?_)⟩
          rintro e w'' ⟨rfl,hC⟩
          exact hK _ _ hC hk
      |halt x w'=>cases x<;>exact hq.elim
    · simp only[hwt] at h ⊢
      exact⟨λ_ _=>trivial,hK _ _ hw h⟩
theorem anyIn_of_q {l n:Nat}{P:Program}{md:Region.Mode}{ops:Array Oper}{C:World->Prop}{Q:Act->Prop}{Q':Exit->Act->World->Prop}(hd:∀(i:Nat) (o:Oper),ops[i]? =some o->∀c,o.op≠.defer c)(hQ:∀a w,C w->Q a->Q' .normal a w):∀(fuel:Nat) (listed:Array Bool) (a:Act) (w:World),C w->
    wpAnyQ P md ops C Q fuel listed a->wpAnyIn (Fence.wide.inRound l) n P md ops Q' fuel listed a w
  |0,_,_,_,hw,h=>⟨h.1,hQ _ _ hw h.2⟩
  |fuel+1,_,_,_,hw,h=>⟨λh0=>hQ _ _ hw (h.1 h0),λi hi=>opIn_of_q (hd i) hw (λa' w' hw'=>anyIn_of_q hd hQ fuel _ a' w' hw') (h.2 i hi)⟩
theorem wpIn_round_quiet {l n:Nat}{P:Program}{id:Nat}{Q:Exit->Act->World->Prop}{a:Act}{w:World}{ol:List Oper}(hm:P.follows .mixedOrders=true)(hB:Region.lexB .any ol.toArray=true)(hd:noDefer ol=true)(h:wpQuiet P ol.toArray (λw'=>∃n,w'=w.drewN n) (λa'=>∀w',(∃n,w'=w.drewN n)->Q .normal a' w') ol a):(Code.region id ol.toArray true).wpIn (Fence.wide.inRound l) n P Q a w:=by
  simp only[Region.lexB,Bool.and_eq_true] at hB
  refine wpIn_region_any hm (anyIn_of_q (C:=λw'=>∃n,w'=w.drewN n) (Q:=λa'=>∀w',(∃n,w'=w.drewN n)->Q .normal a' w') (λi o ho=>noDefer_spec hd ho) (λ_ w' hw' h=>h w' hw') _ _ _ _ ⟨1,rfl⟩ ?_)
  have:=wpAnyQ_lex (C:=λw'=>∃n,w'=w.drewN n) (md:=.any) hB.1 ol.toArray.toList 0 (Array.replicate ol.toArray.size false) a (by simp) (by simpa using hB.2) (by simpa using h)
  simpa using this
theorem rows_round {P:Program}{row:String}{args:Array Value}{w:World}{R:Value->World->Prop}(l n:Nat)(h:Rows P row args w R):RowsIn (Fence.wide.inRound l) n P row args w R:=λc cs _=>by
  obtain⟨v,w',r,s⟩:=h c cs
  exact⟨v,w',r,stepsIn_wide.2 s⟩
theorem opIn_of {l n:Nat}{P:Program}{ops:Array Oper}{Q:Exit->Act->World->Prop}{i:Nat}{K K':Act->World->Prop}{a:Act}{w:World}(hd:∀o,ops[i]? =some o->∀c,o.op≠.defer c)(hL:¬LetsOut Q)(hK:∀a w,K a w->K' a w)(h:wpOp P ops Q i K a w):
    wpOpIn (Fence.wide.inRound l) n P ops Q i K' a w:=by
  unfold wpOp at h
  unfold wpOpIn
  cases ho:ops[i]? with
  |none=>
    simp only[ho] at h ⊢
    exact hK _ _ h
  |some o=>
    simp only[ho] at h ⊢
    by_cases hwt:Region.wanted o (yielded ops a.tmps)=true
    · simp only[hwt,if_true] at h ⊢
      rcases h with h|h
      · refine⟨λ_ _=>trivial,?_⟩
        rw[Oper.semAt_eq _ _ _ (hd o ho)]
        unfold Oper.wp at h
        generalize (execOp a.eval o).run P w=r at h ⊢
        cases r with
        |ok nx w'=>
          cases nx<;>simp only[Oper.upon] at h<;>simp only[Oper.uponIn]<;>first
            |exact hK _ _ h
            |exact h.elim
            |exact⟨λe=>by simp[Fence.wide] at e,rows_round l _ (Rows.mono h λ_ _=>hK _ _)⟩
            |(refine⟨λe=>by simp[Fence.wide] at e,calls_round l _ (Calls.mono h ?_)⟩;intro e w'' he;cases e<;>first|exact hK _ _ he|exact he)
        |halt x w'=>cases x<;>first|exact h|exact h.elim
      · exact absurd h.2 hL
    · simp only[hwt] at h ⊢
      exact⟨λ_ _=>trivial,hK _ _ h⟩
theorem anyIn_of {l n:Nat}{P:Program}{md:Region.Mode}{ops:Array Oper}{Q:Exit->Act->World->Prop}(hd:∀(i:Nat) (o:Oper),ops[i]? =some o->∀c,o.op≠.defer c)(hL:¬LetsOut Q):∀(fuel:Nat) (listed:Array Bool) (a:Act) (w:World),
    wpAny P md ops Q fuel listed a w->wpAnyIn (Fence.wide.inRound l) n P md ops Q fuel listed a w
  |0,_,_,_,h=>h
  |fuel+1,_,_,_,h=>⟨h.1,λi hi=>opIn_of (hd i) hL (λa' w'=>anyIn_of hd hL fuel _ a' w') (h.2 i hi)⟩
theorem wpIn_round_held {l n:Nat}{P:Program}{id:Nat}{Q:Exit->Act->World->Prop}{S:World->Prop}{a:Act}{w:World}{ol:List Oper}(hm:P.follows .mixedOrders=true)(hd:noDefer ol=true)(hL:¬LetsOut Q)(hS:S w.drew)(h:S w.drew->wpAnyH P .any ol.toArray Q S ol.toArray.size (Array.replicate ol.toArray.size false) a w.drew):(Code.region id ol.toArray true).wpIn (Fence.wide.inRound l) n P Q a w:=
  wpIn_region_any hm (anyIn_of (λ_ _ ho=>noDefer_spec hd ho) hL _ _ _ _ (wpAny_of_held _ _ _ _ (h hS)))
theorem wpIn_round_owed {l n:Nat}{P:Program}{id:Nat}{ol:List Oper}(ops':Array Oper)(L:Nat)(st:Oper){Q:Exit->Act->World->Prop}{S:World->Prop}{a:Act}{w:World}(hm:P.follows .mixedOrders=true)(hdf:noDefer ol=true)(hL:¬LetsOut Q)(h1:ol.toArray[L]? =some st)(hd:st.dst=none)(hg:st.guard=none)(hsz:ol.toArray.size=L+1)(hlt:∀(i:Nat) (o:Oper) (e:Edge),ol.toArray[i]? =some o->e∈o.after->e.on<i)(nxt:Nat->Nat)(hn:∀j,j<L->j<nxt j/\nxt j<=L/\∃o,ol.toArray[nxt j]? =some o/\∃e∈o.after,Region.binds .any e=true/\e.on=j)(he:ops'=ol.toArray.setIfInBounds L (nop st))(hS:S w.drew)(h:S w.drew->wpAnyH P .any ops' (Owed P st Q) S ops'.size (Array.replicate ops'.size false) a w.drew):(Code.region id ol.toArray true).wpIn (Fence.wide.inRound l) n P Q a w:=by
  have h':=wpAny_of_held _ _ _ _ (h hS)
  subst he
  rw[Array.size_setIfInBounds] at h'
  refine wpIn_region_any hm (anyIn_of (λ_ _ ho=>noDefer_spec hdf ho) hL _ _ _ _ (wpAny_owed h1 hd hg hsz hlt nxt hn _ _ _ _ (by simp) ?_ ?_ h'))
  · have:L<ol.toArray.size:=by omega
    simp only[Array.getD_eq_getD_getElem?,Array.getElem?_replicate,this,if_true,Option.getD_some]
  · intro i o e hi
    by_cases hh:i<ol.toArray.size
    · simp only[Array.getD_eq_getD_getElem?,Array.getElem?_replicate,hh,if_true,Option.getD_some] at hi
      cases hi
    · simp only[Array.getD_eq_getD_getElem?,Array.getElem?_replicate,hh,if_false,Option.getD_none] at hi
      cases hi
section
open Go.Lib
theorem addr_addO (g o j:Nat):(⟨g,o,none⟩:Addr).add j=⟨g,o+j,none⟩:=by
  unfold Addr.add
  by_cases h:j=0
  · subst h;simp
  · simp[h]
theorem one_cell {w:World}{bv:Nat}{u:Value}(h:w.cell? ⟨bv,0,none⟩=some u):∀j v,[u][j]? =some v->w.cell? ((⟨bv,0,none⟩:Addr).add j)=some v:=λj v hv=>by
  cases j with
  |zero=>
    simp only[List.getElem?_cons_zero,Option.some.injEq] at hv
    subst hv
    exact h
  |succ j=>simp at hv
theorem ins_none (a x:Option Addr)(cap bv:Nat)(w:World)(hS:Sl w 210 1 (.slice a 0 cap) 0 [])(hv:w.cell? ⟨bv,0,none⟩=some (.pointer x)):
    Calls prog 266 #[.slice a 0 cap,.int .i64 0,.slice (some ⟨bv,0,none⟩) 1 1] w λe w'=>∃v',e=.returned v'/\Sl w' 210 1 v' 1 [.pointer x]/\w.grownBy w' (Value.slice a 0 cap).ownBlock/\(v'.ownBlock=(Value.slice a 0 cap).ownBlock\/∃g,v'.ownBlock=some g/\w.heap.size<=g):=by
  obtain⟨i0,hi,hz0,hz1,hz2⟩:=info_parts info_ptr
  have HS:Hid (Sl w 210 1 (.slice a 0 cap) 0 []):=hS
  have HV:Hid (w.cell? ⟨bv,0,none⟩=some (.pointer x)):=hv
  clear hS hv
  go_enter func266,ntmps266
  go_wp2_with (at_builtin;refine wpList_append_sl _ rfl _ _ 195 rfl _ i0 _ 1 8 underlying195 hi hz0 hz1 hz2 rfl (by decide) (.slice a 0 cap) 0 [] rfl HS.out ⟨bv,0,none⟩ 1 1 [.pointer x] rfl rfl (one_cell HV.out) (by simp[Value.oneCell']) (by unfold maxLen;omega) (by omega) ?_;intro v3 w3 hown3 hg3 hloc3;obtain⟨a3,c3,rfl⟩:=hown3.form;have O3:Hid (Sl w3 210 1 (.slice a3 1 c3) 1 [.pointer x]):=hown3;have G3:Hid _:=hg3;have L3:Hid _:=hloc3;clear hown3 hg3 hloc3)
  go_ret
  exact⟨_,rfl,O3.out,G3.out,L3.out⟩
theorem ins_room (x:Option Addr)(g off n cap bv:Nat)(xs:List Value)(w:World)(hS:Sl w 210 1 (.slice (some ⟨g,off,none⟩) n cap) n xs)(hx:∀v∈xs,v.oneCell'=true)(hn:0<n)(hc:n+1<=cap)(hv:Bx w bv 210 #[.pointer x])(hne:bv≠g):
    Calls prog 266 #[.slice (some ⟨g,off,none⟩) n cap,.int .i64 0,.slice (some ⟨bv,0,none⟩) 1 1] w λe w'=>e=.returned (.slice (some ⟨g,off,none⟩) (n+1) cap)/\Sl w' 210 1 (.slice (some ⟨g,off,none⟩) (n+1) cap) (n+1) (.pointer x::xs)/\w.grownBy w' (some g):=by
  obtain⟨cur,hg,h1,h2,h3,h4⟩:=hS.row
  have hxl:xs.length=n:=by simpa using hS.1
  unfold maxLen at h2
  have HX:Hid (∀v∈xs,v.oneCell'=true):=hx
  have HG:Hid (w.heap[g]? =some (.cells cur 210 (0,0))):=hg
  have HV:Hid (Bx w bv 210 #[.pointer x]):=hv
  have H4:Hid (∀j u,xs[j]? =some u->cur[off+j]? =some u):=h4
  have H3:Hid (off+cap*1<=cur.size):=h3
  have HSZ:Hid (((prog.info? 210).map (·.size))=some 1):=by
    show _=_
    kernel_rfl
  have hov:(Extern.SlicesOverlaps.overlaps #[195,195] #[4] #[.slice (some ⟨bv,0,none⟩) 1 1,.slice (some ⟨g,off+1,none⟩) n (cap-1)]).run prog w=.ok (.bool false) w:=by
    refine run_overlaps_apart (P:=prog) w 195 4 210 underlying195 1 (λW=>Tryz.sizeOf210 W) ⟨bv,0,none⟩ ⟨g,off+1,none⟩ 1 1 n (cap-1) hne 210 210 1 cur.size ?_ ?_ (by omega) (hv.fr 0) (hv.fr 1)
    · unfold Bx at hv
      simp[World.shape?,hv]
    · simp[World.shape?,hg]
  have q2:¬((cap:Int)<(n:Int)+1):=by omega
  have w1:IntKind.i64.wrap 1=1:=wrap_i64 (by omega) (by omega)
  have t1:(1:Int)<=(n:Int)+1:=by omega
  have t2:¬cap=1:=by omega
  have t0:(0:Int)<=(n:Int)+1:=by omega
  have HL:Hid (xs.length=Nat.min (n+1) n):=by
    show _=_
    rw[hxl];exact(Nat.min_eq_right (by omega)).symm
  have HF:Hid (off+1+xs.length<=cur.size):=by
    have:=H3.out
    show _<=_
    omega
  have HM:Hid ([Value.pointer x].length=Nat.min 1 (n+1)):=by
    show 1=_
    exact(Nat.min_eq_left (by omega)).symm
  have HC:Hid (∀j v,xs[j]? =some v->w.drew.cell? ((⟨g,off,none⟩:Addr).add j)=some v):=λj v hj=>by
    rw[addr_addO,cell_drew]
    have:=H4.out j v hj
    simp[World.cell?,HG.out,this]
  have HXL:Hid (xs.length=n):=hxl
  clear hS hx hg hv h4 h3 hxl
  go_enter func266,ntmps266
  go_wp2_with fail
  rw[run_callFunc_extern func275 (by kernel_rfl) (by kernel_rfl) (by kernel_rfl) (e:=Extern.SlicesOverlaps.overlaps #[195,195] #[4]) (by kernel_rfl),hov]
  simp only[Result.andThen]
  rw[Oper.upon_value]
  clear hov
  go_wp2_with fail
  go_region_law ((first|(refine step_copy_over rfl _ _ 195 rfl 210 underlying195 HSZ.out g (off+1) n (cap-1) ⟨g,off,none⟩ (n+1) cap xs cur (by simp[Act.eval,Act.put]) (by simp[Act.eval,Act.put]) HL.out HG.out HF.out HC.out HX.out ?_;intro w3 cur3 hO3;have O3:Hid (Over w.drew w3 g 210 (off+1) xs cur cur3):=hO3;clear hO3)|fail))
  all_goals
    have HV3:Hid (w3.cell? ⟨bv,0,none⟩=some (.pointer x)):=((show Bx w.drew bv 210 #[.pointer x] from HV.out).grown O3.out.grown (by simpa using hne)).cell (i:=0) rfl
    have HF3:Hid (off+[Value.pointer x].length<=cur3.size):=by
      have h1:=HF.out
      have h2:=O3.out.size
      show off+1<=_
      omega
    go_wp2_with (refine wpList_copy_over _ rfl _ _ 195 rfl 210 underlying195 HSZ.out g off (n+1) cap ⟨bv,0,none⟩ 1 1 [.pointer x] cur3 (by simp[Act.eval]) (by simp[Act.eval]) HM.out O3.out.row HF3.out (one_cell HV3.out) (by simp[Value.oneCell']) ?_;intro w4 cur4 hO4;have O4:Hid (Over w3 w4 g 210 off [.pointer x] cur3 cur4):=hO4;clear hO4)
    go_ret
    refine⟨rfl,⟨by rw[List.length_cons,HXL.out,Nat.mul_one],.inr ⟨g,off,cap,cur4,rfl,O4.out.row,hc,by unfold maxLen;omega,?_,λj u hu=>?_⟩⟩,?_⟩
    · have h1:=O4.out.size
      have h2:=O3.out.size
      have h3:=H3.out
      omega
    · cases j with
      |zero=>exact O4.out.inn 0 u hu
      |succ j=>
        rw[List.getElem?_cons_succ] at hu
        rw[O4.out.out (off+(j+1)) (.inr (by simp)),show off+(j+1)=off+1+j by omega]
        exact O3.out.inn j u hu
    · exact(⟨O3.out.grown.os,O3.out.grown.tape,O3.out.grown.output,O3.out.grown.size,O3.out.grown.block⟩:w.grownBy w3 (some g)).trans O4.out.grown
theorem ins_grow (x:Option Addr)(g off n cap bv:Nat)(xs:List Value)(w:World)(hS:Sl w 210 1 (.slice (some ⟨g,off,none⟩) n cap) n xs)(hx:∀v∈xs,v.oneCell'=true)(hn:0<n)(hc:cap<n+1)(h8:n<1048576000)(hv:Bx w bv 210 #[.pointer x]):
    Calls prog 266 #[.slice (some ⟨g,off,none⟩) n cap,.int .i64 0,.slice (some ⟨bv,0,none⟩) 1 1] w λe w'=>∃v',e=.returned v'/\Sl w' 210 1 v' (n+1) (.pointer x::xs)/\Below w.heap.size w w'/\∃b,v'.ownBlock=some b/\w.heap.size<=b:=by
  obtain⟨i0,hi,hz0,hz1,hz2⟩:=info_parts info_ptr
  have hxl:xs.length=n:=by simpa using hS.1
  have HX:Hid (∀v∈xs,v.oneCell'=true):=hx
  have HS:Hid (Sl w 210 1 (.slice (some ⟨g,off,none⟩) n cap) n xs):=hS
  have HV:Hid (Bx w bv 210 #[.pointer x]):=hv
  have HSZ:Hid (((prog.info? 210).map (·.size))=some 1):=by
    show _=_
    kernel_rfl
  have hrun:=λty=>run_append_zeros_over (P:=prog) w 195 3 ty 210 i0 (.pointer none) .i64 .i64 underlying195 underlying3 hi hz0 (some ⟨g,off,none⟩) cap (n+1) hc (by omega) (by omega) (by rw[hz2];omega)
  have hge:=grownCap_ge w (n+1) cap 210
  have hle:=grownCap_le_maxLen w (n+1) cap 210 (by unfold maxLen;omega)
  have hZ:(Builtin.zeroCells (Value.pointer none).cells (n+1)++Builtin.zeroCells (Value.pointer none).cells (grownCap w (n+1) cap 210-(n+1))).size=grownCap w (n+1) cap 210:=by
    simp[size_zeroCells,Value.cells];omega
  generalize grownCap w (n+1) cap 210=C at *
  generalize Builtin.zeroCells (Value.pointer none).cells (n+1)++Builtin.zeroCells (Value.pointer none).cells (C-(n+1))=Z at *
  have HB1:Hid (Below w.heap.size w (w.alloc (.cells Z 210)).drew):=below_new_drew _ _
  have HG1:Hid ((w.alloc (.cells Z 210)).drew.heap[w.heap.size]? =some (.cells Z 210 (0,0))):=Bx.new w Z 210
  unfold maxLen at hle
  have HXL:Hid (xs.length=n):=hxl
  have HZ:Hid (Z.size=C):=hZ
  have HR:Hid (∀ty,(Builtin.append_ #[195,3] ty #[.slice (some ⟨g,off,none⟩) 0 cap,.int .i64 ((n+1:Nat):Int)]).run prog w=.ok (.slice (some ⟨w.heap.size,0,none⟩) (n+1) C) (w.drew.alloc (.cells Z 210))):=hrun
  have q2:(cap:Int)<(n:Int)+1:=by omega
  have w1:IntKind.i64.wrap 1=1:=wrap_i64 (by omega) (by omega)
  have t1:(1:Int)<=(n:Int)+1:=by omega
  have t0:(0:Int)<=(n:Int):=by omega
  have t2:¬C=1:=by omega
  have HM:Hid ([Value.pointer x].length=Nat.min 1 (n+1)):=by
    show 1=_
    exact(Nat.min_eq_left (by omega)).symm
  have HL:Hid (xs.length=Nat.min n n):=by
    show _=_
    rw[hxl];exact(Nat.min_self n).symm
  clear hS hx hv hrun hxl hZ
  go_enter func266,ntmps266
  go_upto_region 10 with (at_builtin;refine wpList_append_run _ rfl _ _ 195 3 rfl (.slice (some ⟨g,off,none⟩) 0 cap) (.int .i64 ((n+1:Nat):Int)) (by simp[Act.eval]) (by simp[Act.eval]) _ _ (HR.out _) ?_)
  clear HR
  generalize (w.alloc (.cells Z 210)).drew=W1 at *
  have HV1:Hid (W1.cell? ⟨bv,0,none⟩=some (.pointer x)):=Bx.cell (i:=0) ((HB1.out.block bv HV.out.lt).trans HV.out) rfl
  have HF1:Hid (0+[Value.pointer x].length<=Z.size):=by
    have:=HZ.out
    show 0+1<=_
    omega
  go_wp2_with (refine wpList_copy_over _ rfl _ _ 195 rfl 210 underlying195 HSZ.out w.heap.size 0 (n+1) C ⟨bv,0,none⟩ 1 1 [.pointer x] Z (by simp[Act.eval]) (by simp[Act.eval]) HM.out HG1.out HF1.out (one_cell HV1.out) (by simp[Value.oneCell']) ?_;intro w3 cur3 hO3;have O3:Hid (Over W1 w3 w.heap.size 210 0 [.pointer x] Z cur3):=hO3;clear hO3)
  have HB3:Hid (Below w.heap.size w w3):=HB1.out.grown O3.out.grown HB1.out.size (by intro k hk;cases hk;exact Nat.le_refl _)
  have HF3:Hid (1+xs.length<=cur3.size):=by
    have h1:=O3.out.size
    have h2:=HZ.out
    have h3:=HXL.out
    show _<=_
    omega
  have HC:Hid (∀j v,xs[j]? =some v->w3.drew.cell? ((⟨g,off,none⟩:Addr).add j)=some v):=λj v hj=>by
    rw[addr_addO,cell_drew]
    exact(HS.out.later HB3.out).cell hj
  go_region_law ((first|(refine step_copy_over rfl _ _ 195 rfl 210 underlying195 HSZ.out w.heap.size 1 n (C-1) ⟨g,off,none⟩ n cap xs cur3 (by simp[Act.eval,Act.put]) (by simp[Act.eval,Act.put]) HL.out O3.out.row HF3.out HC.out HX.out ?_;intro w4 cur4 hO4;have O4:Hid (Over w3.drew w4 w.heap.size 210 1 xs cur3 cur4):=hO4;clear hO4)|fail))
  all_goals
    go_wp2_with fail
    go_ret
    refine⟨_,rfl,⟨by rw[List.length_cons,HXL.out,Nat.mul_one],.inr ⟨w.heap.size,0,C,cur4,rfl,O4.out.row,hge,by unfold maxLen;omega,?_,λj u hu=>?_⟩⟩,?_,w.heap.size,rfl,Nat.le_refl _⟩
    · have h1:=O4.out.size
      have h2:=O3.out.size
      have h3:=HZ.out
      omega
    · cases j with
      |zero=>
        rw[O4.out.out (0+0) (.inl (by omega))]
        exact O3.out.inn 0 u hu
      |succ j=>
        rw[List.getElem?_cons_succ] at hu
        rw[show 0+(j+1)=1+j by omega]
        exact O4.out.inn j u hu
    · exact HB3.out.grown (⟨O4.out.grown.os,O4.out.grown.tape,O4.out.grown.output,O4.out.grown.size,O4.out.grown.block⟩:w3.grownBy w4 (some w.heap.size)) HB3.out.size (by intro k hk;cases hk;exact Nat.le_refl _)
end
section
open Go.Lib
theorem ins_any (x:Option Addr)(v:Value)(n bv:Nat)(xs:List Value)(w:World)(hS:Sl w 210 1 v n xs)(hx:∀u∈xs,u.oneCell'=true)(h8:n<1048576000)(hv:Bx w bv 210 #[.pointer x])(hne:v.ownBlock≠some bv):
    Calls prog 266 #[v,.int .i64 0,.slice (some ⟨bv,0,none⟩) 1 1] w λe w'=>∃v',e=.returned v'/\Sl w' 210 1 v' (n+1) (.pointer x::xs)/\(v'.ownBlock=v.ownBlock\/∃g,v'.ownBlock=some g/\w.heap.size<=g)/\Only w w' (λk=>v.ownBlock=some k):=by
  by_cases h0:n=0
  · subst h0
    obtain⟨a,cap,rfl⟩:=hS.form
    obtain rfl:xs=[]:=List.eq_nil_of_length_eq_zero (by simpa using hS.1)
    refine(ins_none a x cap bv w hS (hv.cell (i:=0) rfl)).mono ?_
    rintro e w' ⟨v',rfl,h1,h2,h3⟩
    exact⟨v',rfl,h1,h3,Only.of_grown h2 λk hk=>hk⟩
  · obtain⟨g,off,cap,rfl,h1,h2⟩:=hS.addr (by omega)
    by_cases hc:n+1<=cap
    · refine(ins_room x g off n cap bv xs w hS hx (by omega) hc hv (λe=>hne (by rw[e];rfl))).mono ?_
      rintro e w' ⟨rfl,h3,h4⟩
      exact⟨_,rfl,h3,.inl rfl,Only.of_grown h4 λk hk=>hk⟩
    · refine(ins_grow x g off n cap bv xs w hS hx (by omega) (by omega) h8 hv).mono ?_
      rintro e w' ⟨v',rfl,h3,h4,b,h5,h6⟩
      exact⟨v',rfl,h3,.inr ⟨b,h5,h6⟩,Only.of_below h4⟩
theorem segAddFirst (yb i n:Nat)(t:TypeId)(v:Value)(x:Option Addr)(cs:Array Value)(xs:List Value)(w:World)(hB:Bx w yb t cs)(hv:cs[i]? =some v)(hS:Sl w 210 1 v n xs)(hx:∀u∈xs,u.oneCell'=true)(hne:v.ownBlock≠some yb)(hn:n<1048576000):
    Calls prog 245 #[.pointer (some ⟨yb,i,none⟩),.pointer x] w λe w'=>e=.returned (.tuple #[])/\∃v',Bx w' yb t (cs.setIfInBounds i v')/\Sl w' 210 1 v' (n+1) (.pointer x::xs)/\(v'.ownBlock=v.ownBlock\/∃g,v'.ownBlock=some g/\w.heap.size<=g)/\Only w w' (λk=>k=yb\/v.ownBlock=some k):=by
  have hI:=ins_any x v n w.heap.size xs (w.alloc (.cells #[.pointer x] 210)) (hS.mk _) hx hn (Bx.new _ _ _) (λe=>by have:=hS.lt e;omega)
  obtain⟨oa,ocap,rfl⟩:=hS.form
  have HB:Hid (Bx w yb t cs):=hB
  have hlt:=hB.lt
  have c0:=hB.cell hv
  clear hB hS hx
  go_enter func245,ntmps245
  go_wp2_with fail
  go_fit hI
  rintro e w3 ⟨v3,rfl,h1,h2,h3⟩
  obtain⟨a3,c3,rfl⟩:=h1.form
  have HB3:Hid (Bx w3 yb t cs):=(h3.block yb (by simp;omega) hne).trans (HB.out.mk _)
  have d0:=HB3.out.cell hv
  have f0:=HB3.out.fr i
  have H1:Hid (Sl w3 210 1 (.slice a3 (n+1) c3) (n+1) (.pointer x::xs)):=h1
  have H2:Hid ((Value.slice a3 (n+1) c3).ownBlock=(Value.slice oa n ocap).ownBlock\/∃g,(Value.slice a3 (n+1) c3).ownBlock=some g/\w.heap.size<=g):=h2.imp (λh=>h) (λ⟨g,h,hg⟩=>⟨g,h,by simp at hg;omega⟩)
  have H3:Hid (Only w w3 (λk=>(Value.slice oa n ocap).ownBlock=some k)):=(Only.of_below (below_new w _)).trans h3 λk hk=>.inl hk
  clear h1 h2 h3 hI
  go_wp2_with fail
  have nnb:(Value.slice a3 (n+1) c3).ownBlock≠some yb:=by
    rcases H2.out with h|⟨g,h,hg⟩
    · rw[h];exact hne
    · rw[h];intro e;cases e;omega
  refine bodyPost_end (v:=.tuple #[]) (results_none (by kernel_rfl) _ _ _) rfl ⟨rfl,_,HB3.out.set i _,H1.out.grown (grown_set _ _ _ _) (λg hg e=>nnb (by rw[hg];exact e.symm)),H2.out,?_⟩
  exact(Only.mono H3.out λk hk=>.inr hk).trans (Only.of_grown (grown_set _ _ _ _) (S:=λk=>k=yb) λk h=>by cases h;rfl) λk h=>.inl (.inl h)
end
structure YardZ (w:World)(S:Nat->Prop)(yb mb n0:Nat)(c:Cfg)(s:Ts)(q:List Pw)(sb:Nat)(qv ov:Value)(x:Xt)(tl:List Tp)(zs:List (Nat×Sm)):Prop where
  is:YardIs w S yb mb n0 c s q sb qv ov x
  rest:RestIs w S mb n0 s x tl zs
theorem YardIs.z {w:World}{S:Nat->Prop}{yb mb n0:Nat}{c:Cfg}{s:Ts}{q:List Pw}{sb:Nat}{qv ov:Value}{x:Xt}(h:YardIs w S yb mb n0 c s q sb qv ov x):∃tl zs,YardZ w S yb mb n0 c s q sb qv ov x tl zs:=by
  obtain⟨tl,zs,hr⟩:=h.rest
  exact⟨tl,zs,h,hr⟩
theorem YardZ.mk' {w:World}{S:Nat->Prop}{yb mb n0:Nat}{c:Cfg}{s:Ts}{q:List Pw}{sb:Nat}{qv ov:Value}{x:Xt}{tl:List Tp}{zs:List (Nat×Sm)}(hr:RestIs w S mb n0 s x tl zs)(qs:(q.map Prod.fst).Perm s.queue)(box:Bx w yb 201 (yardCells c x s.begun s.now qv sb s.outs.length ov))(que:QIs w S c.age q qv)(sub:Subm w sb s.ids)(outs:OIs w S s.outs s.acked ov)(fy:S yb)(fs:S sb)(nt:sb≠x.tip):YardZ w S yb mb n0 c s q sb qv ov x tl zs:=
  ⟨⟨qs,box,que,sub,outs,fy,fs,⟨tl,zs,hr⟩,nt⟩,hr⟩
theorem YardZ.later {w w':World}{S:Nat->Prop}{yb mb n0:Nat}{c:Cfg}{s:Ts}{q:List Pw}{sb:Nat}{qv ov:Value}{x:Xt}{tl:List Tp}{zs:List (Nat×Sm)}(h:YardZ w S yb mb n0 c s q sb qv ov x tl zs)(hb:Below w.heap.size w w'):YardZ w' S yb mb n0 c s q sb qv ov x tl zs:=
  ⟨h.is.later hb,h.rest.kept hb.size (λk hk _=>hb.block k hk) (λ_ h=>h) h.rest.nm rfl rfl rfl (Nat.le_refl _)⟩
theorem YardZ.mono {w:World}{S T:Nat->Prop}{yb mb n0:Nat}{c:Cfg}{s:Ts}{q:List Pw}{sb:Nat}{qv ov:Value}{x:Xt}{tl:List Tp}{zs:List (Nat×Sm)}(h:YardZ w S yb mb n0 c s q sb qv ov x tl zs)(hST:∀k,S k->T k)(hn:¬T mb):YardZ w T yb mb n0 c s q sb qv ov x tl zs:=
  ⟨h.is.mono hST hn,h.rest.kept (Nat.le_refl _) (λ_ _ _=>rfl) hST hn rfl rfl rfl (Nat.le_refl _)⟩
theorem tEndZ {S:Nat->Prop}{yb mb n0:Nat}(id kind:Nat){c:Cfg}{s:Ts}{w:World}{q:List Pw}{sb:Nat}{qv ov:Value}{x:Xt}{tl:List Tp}{zs:List (Nat×Sm)}(h:YardZ w S yb mb n0 c s q sb qv ov x tl zs)(ho:s.outs.length<1048576000)(ha:s.acked<=s.outs.length):
    Calls prog 170 #[.pointer (some ⟨yb,0,none⟩),.int .i64 id,.int .i64 kind] w λe w'=>e=.returned (.tuple #[])/\(∃ov',YardZ w' (Plus S w) yb mb n0 c {s with outs:=s.outs++[(id,kind)]} q sb qv ov' x tl zs)/\OnlyT w w' S [201,99]:=by
  refine(tEnd id kind h.is ho ha).mono ?_
  rintro e w' ⟨rfl,⟨ov',hY⟩,hO⟩
  exact⟨rfl,⟨ov',hY,h.rest.keptT hO.k (Plus.old w) h.is.np rfl rfl rfl (Nat.le_refl _) (by unfold NoRest NoSeg;decide) (hO.map h.rest.map (by decide))⟩,hO⟩
theorem set11 (c:Cfg)(x:Xt)(b t:Nat)(qv:Value)(sb n:Nat)(ov tv':Value):(yardCells c x b t qv sb n ov).setIfInBounds 11 tv'=yardCells c {x with tv:=tv'} b t qv sb n ov:=rfl
theorem ptr_one (zs:List (Nat×Sm)):∀u∈zs.map (λz=>ptr z.1),u.oneCell'=true:=λu hu=>by
  obtain⟨z,_,rfl⟩:=List.mem_map.1 hu
  rfl
theorem tDropZ {S:Nat->Prop}{yb mb n0:Nat}{c:Cfg}{s:Ts}{w:World}{q:List Pw}{sb:Nat}{qv ov:Value}{x:Xt}{tl:List Tp}{z:Nat×Sm}{zs:List (Nat×Sm)}(h:YardZ w S yb mb n0 c s q sb qv ov x tl (z::zs)):
    Calls prog 244 #[.pointer (some ⟨yb,11,none⟩)] w λe w'=>e=.returned (.tuple #[])/\(∃tv',YardZ w' S yb mb n0 c {s with segs:=zs.map Prod.snd} q sb qv ov {x with tv:=tv'} tl zs)/\OnlyT w w' S [201,210]:=by
  have hrow:=h.rest.train.row
  rw[List.length_cons,List.map_cons] at hrow
  refine(segDrop yb 11 zs.length 201 x.tv _ _ _ w h.is.box rfl hrow (hrow.ne h.is.box (by decide))).mono ?_
  rintro e w' ⟨rfl,tv',h1,h2,h3,h4⟩
  have O:OnlyT w w' S [201,210]:=OnlyT.mk h4 λk hk e=>by
    rcases e with rfl|e
    · exact⟨h.is.fy,201,by simp,h.is.box.ty⟩
    · exact⟨h.rest.train.own k e,210,by simp,hrow.ty e⟩
  rw[set11] at h1
  have hi:=λ(k:Nat) (hk:S k)=>hk
  refine⟨rfl,⟨tv',YardZ.mk' ⟨h.rest.nm,Nat.lt_of_lt_of_le h.rest.ml O.size,h.rest.tip,O.map h.rest.map (by decide),h.rest.main.keptT O.k hi (by decide) (by decide),rfl,h2,?_,?_,λy hy=>(h.rest.train.segs y (List.mem_cons_of_mem _ hy)).keptT O.k hi (Nat.le_refl _) (by decide) (by unfold NoSeg;decide)⟩ h.is.qs h1 (h.is.que.keptT O.k hi (by decide) (by decide)) (O.sub h.is.sub (by decide)) (h.is.outs.keptT O.k hi (by decide)) h.is.fy h.is.fs h.is.nt⟩,O⟩
  · intro g hg
    rw[show ({x with tv:=tv'}:Xt).tv=tv' from rfl,h3] at hg
    exact h.rest.train.own g hg
  · have:=h.rest.train.nd
    rw[List.map_cons,List.nodup_cons] at this
    exact this.2
theorem tAddZ {S:Nat->Prop}{yb mb n0:Nat}{c:Cfg}{s:Ts}{w:World}{q:List Pw}{sb:Nat}{qv ov:Value}{x:Xt}{tl:List Tp}{zs:List (Nat×Sm)}(h:YardZ w S yb mb n0 c s q sb qv ov x tl zs)(z:Nat×Sm)(hz:SegAt w S (s.top n0) z)(hn:z.1∉zs.map Prod.fst)(hl:zs.length<1048576000):
    Calls prog 245 #[.pointer (some ⟨yb,11,none⟩),.pointer (some ⟨z.1,0,none⟩)] w λe w'=>e=.returned (.tuple #[])/\(∃tv',YardZ w' (Plus S w) yb mb n0 c {s with segs:=z.2::s.segs} q sb qv ov {x with tv:=tv'} tl (z::zs))/\OnlyT w w' S [201,210]:=by
  have hrow:=h.rest.train.row
  refine(segAddFirst yb 11 zs.length 201 x.tv (some ⟨z.1,0,none⟩) _ _ w h.is.box rfl hrow (ptr_one zs) (hrow.ne h.is.box (by decide)) hl).mono ?_
  rintro e w' ⟨rfl,tv',h1,h2,h3,h4⟩
  have O:OnlyT w w' S [201,210]:=OnlyT.mk h4 λk hk e=>by
    rcases e with rfl|e
    · exact⟨h.is.fy,201,by simp,h.is.box.ty⟩
    · exact⟨h.rest.train.own k e,210,by simp,hrow.ty e⟩
  rw[set11] at h1
  have hp:=Plus.old (S:=S) w
  refine⟨rfl,⟨tv',YardZ.mk' ⟨h.is.np,Nat.lt_of_lt_of_le h.rest.ml O.size,h.rest.tip.imp (λe=>e) .inl,O.map h.rest.map (by decide),h.rest.main.keptT O.k hp (by decide) (by decide),?_,?_,?_,?_,λy hy=>?_⟩ h.is.qs h1 (h.is.que.keptT O.k hp (by decide) (by decide)) (O.sub h.is.sub (by decide)) (h.is.outs.keptT O.k hp (by decide)) (.inl h.is.fy) (.inl h.is.fs) h.is.nt⟩,O⟩
  · rw[List.map_cons,h.rest.train.snd]
  · rw[List.length_cons,List.map_cons];exact h2
  · intro g hg
    rcases h3 with e|⟨g',e,hg'⟩
    · rw[show ({x with tv:=tv'}:Xt).tv=tv' from rfl,e] at hg;exact .inl (h.rest.train.own g hg)
    · rw[show ({x with tv:=tv'}:Xt).tv=tv' from rfl,e] at hg;cases hg;exact .inr hg'
  · rw[List.map_cons,List.nodup_cons];exact⟨hn,h.rest.train.nd⟩
  · rcases List.mem_cons.1 hy with rfl|hy
    · exact hz.keptT O.k hp (Nat.le_refl _) (by decide) (by unfold NoSeg;decide)
    · exact(h.rest.train.segs y hy).keptT O.k hp (Nat.le_refl _) (by decide) (by unfold NoSeg;decide)
theorem ChsIs.cut {w:World}{S:Nat->Prop}{a:Option Addr}{n cap:Nat}{l:List Cg}{cl:List Cw}(h:ChsIs w S (.slice a n cap) l cl){k:Nat}(hk:k<=l.length):ChsIs w S (.slice a k cap) (l.take k) (cl.take k):=by
  have hl:cl.length=l.length:=by rw[<-h.fst,List.length_map]
  obtain⟨a',c',e⟩:=h.row.form
  cases e
  refine⟨by rw[<-h.fst,List.map_take],?_,λg hg=>h.own g (by cases a<;>first|exact hg|(simp[Value.ownBlock] at hg)),λy hy=>h.eds y (List.mem_of_mem_take hy)⟩
  have:=h.row.cut (k:=k) (by omega)
  rw[List.length_take,Nat.min_eq_left (by omega)]
  have e2:(cl.take k).flatMap cC=(cl.flatMap cC).take (k*2):=by
    conv=>rhs;rw[<-List.take_append_drop k cl,List.flatMap_append]
    rw[List.take_left' (by rw[flat_len cC 2 (λ_=>rfl),List.length_take,Nat.min_eq_left (by omega)])]
  rw[e2];exact this
theorem ChsIs.tail {w:World}{S:Nat->Prop}{g off n cap:Nat}{l:List Cg}{cl:List Cw}(h:ChsIs w S (.slice (some ⟨g,off,none⟩) n cap) l cl){k:Nat}(hk:k<=l.length){off':Nat}(ho:off'=off+k*2\/cap-k=0):ChsIs w S (.slice (some ⟨g,if cap-k=0 then off else off',none⟩) (n-k) (cap-k)) (l.drop k) (cl.drop k):=by
  have hl:cl.length=l.length:=by rw[<-h.fst,List.length_map]
  obtain⟨a',c',e⟩:=h.row.form
  cases e
  refine⟨by rw[<-h.fst,List.map_drop],?_,λg' hg=>h.own g' hg,λy hy=>h.eds y (List.mem_of_mem_drop hy)⟩
  have:=h.row.tail (k:=k) (by omega) ho
  rw[List.length_drop]
  have e2:(cl.drop k).flatMap cC=(cl.flatMap cC).drop (k*2):=by
    conv=>rhs;rw[<-List.take_append_drop k cl,List.flatMap_append]
    rw[List.drop_left' (by rw[flat_len cC 2 (λ_=>rfl),List.length_take,Nat.min_eq_left (by omega)])]
  rw[e2];exact this
theorem seg_new {w:World}{S:Nat->Prop}{N:Nat}{cv:Value}{l:List Cg}{cl:List Cw}(h:ChsIs w S cv l cl):SegAt (w.alloc (.cells (segCells cv 0 0 (.pointer none)) 240)) (Plus S w) N (w.heap.size,Sm.new l):=
  ⟨cv,.pointer none,cl,Bx.new _ _ _,h.keptT (OnlyT.below (S:=S) (ts:=[]) (below_new w _)).k (Plus.old w) (by decide) (by decide),rfl,.inr (Nat.le_refl _)⟩
theorem Ts.conflict_cons (s:Ts)(f:Sm)(m:List Sm)(y:Cg)(l:List Cg)(h:f.l=y::l):s.conflict f m={s with outs:=s.outs++[(y.1,3)],segs:=newIf l++m}:=by
  simp[Ts.conflict,h]
theorem Plus.three {S:Nat->Prop}{w w1 w2:World}(h1:w.heap.size<=w1.heap.size)(h2:w.heap.size<=w2.heap.size):∀k,Plus (Plus (Plus S w) w1) w2 k->Plus S w k:=λk hk=>by
  rcases hk with (hk|hk)|hk
  · exact hk
  · exact .inr (Nat.le_trans h1 hk)
  · exact .inr (Nat.le_trans h2 hk)
theorem tConflict {S:Nat->Prop}{yb mb n0 p:Nat}{c:Cfg}{s:Ts}{f:Sm}{w:World}{q:List Pw}{sb:Nat}{qv ov:Value}{x:Xt}{tl:List Tp}{zs:List (Nat×Sm)}(h:YardZ w S yb mb n0 c s q sb qv ov x tl ((p,f)::zs))(hf:f.l≠[])(ho:s.outs.length<1048576000)(ha:s.acked<=s.outs.length)(hl:zs.length<1048576000):
    Calls prog 210 #[ptr yb,ptr p] w λe w'=>e=.returned (.tuple #[])/\(∃ov' tv' zs',YardZ w' (Plus S w) yb mb n0 c (s.conflict f (zs.map Prod.snd)) q sb qv ov' {x with tv:=tv'} tl zs')/\OnlyT w w' S [201,99,210]:=by
  obtain⟨y,l,hyl⟩:∃y l,f.l=y::l:=by
    cases hq:f.l with
    |nil=>exact absurd hq hf
    |cons y l=>exact⟨y,l,rfl⟩
  rw[Ts.conflict_cons s f _ y l hyl]
  obtain⟨cv,jv,cl,hseg⟩:=h.rest.train.segs (p,f) (by simp)
  have hfst:=hseg.chs.fst
  rw[show (p,f).2.l=y::l from hyl] at hfst
  obtain⟨y',cl',rfl,rfl,rfl⟩:∃y' cl',cl=y'::cl'/\y'.1=y/\cl'.map Prod.fst=l:=by
    cases cl with
    |nil=>simp at hfst
    |cons a b=>
      rw[List.map_cons,List.cons.injEq] at hfst
      exact⟨a,b,rfl,hfst.1,hfst.2⟩
  obtain⟨g,off,cap,rfl,hnc,hcm⟩:=hseg.chs.row.addr (by simp)
  have hE:=tEndZ y'.1.1 3 h ho ha
  have HY:Hid (YardZ w S yb mb n0 c s q sb qv ov x tl ((p,f)::zs)):=h
  have c0:w.cell? ⟨p,0,none⟩=some (.slice (some ⟨g,off,none⟩) (cl'.length+1) cap):=hseg.box.cell (i:=0) rfl
  have d0:w.cell? ⟨g,off,none⟩=some (.int .i64 y'.1.1):=hseg.chs.row.cell (j:=0) rfl
  have HSeg:Hid (SegIs w S (s.top n0) p f (.slice (some ⟨g,off,none⟩) (cl'.length+1) cap) jv (y'::cl')):=hseg
  have HL:Hid (f.l=y'.1::cl'.map Prod.fst):=hyl
  rw[List.length_cons] at hnc
  unfold maxLen at hcm
  clear h hseg hf hyl hfst
  generalize y'.1.1=id at *
  unfold ptr
  go_enter func210,ntmps210
  go_wp2_with fail
  go_fit hE
  rintro e w1 ⟨rfl,⟨ov1,hY1⟩,hO1⟩
  have hD:=tDropZ hY1
  have HO1:Hid (OnlyT w w1 S [201,99]):=hO1
  clear hE hY1 hO1 c0 d0
  go_wp2_with fail
  go_fit hD
  rintro e w2 ⟨rfl,⟨tv2,hY2⟩,hO2⟩
  have HO12:Hid (OnlyT w w2 S [201,99,201,210]):=HO1.out.trans hO2 λk hk=>hk
  have hch:ChsIs w2 (Plus S w) (.slice (some ⟨g,off,none⟩) (cl'.length+1) cap) (y'.1::cl'.map Prod.fst) (y'::cl'):=by
    have:=HSeg.out.chs.keptT HO12.out.k (Plus.old w) (by decide) (by decide)
    rwa [HL.out] at this
  have c0:w2.cell? ⟨p,0,none⟩=some (.slice (some ⟨g,off,none⟩) (cl'.length+1) cap):=(HO12.out.bx HSeg.out.box (by decide)).cell (i:=0) rfl
  have hw2:w.heap.size<=w2.heap.size:=HO12.out.size
  have HY2:Hid (YardZ w2 (Plus S w) yb mb n0 c {s with outs:=s.outs++[(id,3)],segs:=zs.map Prod.snd} q sb qv ov1 {x with tv:=tv2} tl zs):=hY2
  have hmb:¬Plus S w mb:=HY.out.is.np
  have hO:Hid (OnlyT w w2 S [201,99,210]):=HO12.out.mono (λ_ h=>h) (by decide)
  by_cases hz:cl'=[]
  · subst hz
    clear hY2 hO2 hD hch
    go_wp2_with fail
    all_goals
      go_end0
      exact⟨rfl,⟨ov1,tv2,zs,by simpa[newIf] using HY2.out⟩,hO.out⟩
  · have hpos:0<cl'.length:=List.length_pos_iff.2 hz
    have hcap1:¬cap-1=0:=by omega
    have hc1:¬cap=1:=by omega
    have htail:=hch.tail (k:=1) (by simp) (off':=off+2) (.inl (by omega))
    rw[if_neg hcap1,List.drop_one,List.drop_one,List.tail_cons,List.tail_cons,Nat.add_sub_cancel] at htail
    have hnew:=seg_new (N:=Ts.top n0 {s with outs:=s.outs++[(id,3)],segs:=zs.map Prod.snd}) htail
    have hY3:YardZ (w2.alloc (.cells (segCells (.slice (some ⟨g,off+2,none⟩) cl'.length (cap-1)) 0 0 (.pointer none)) 240)) (Plus (Plus S w) w2) yb mb n0 c {s with outs:=s.outs++[(id,3)],segs:=zs.map Prod.snd} q sb qv ov1 {x with tv:=tv2} tl zs:=(hY2.later (below_new _ _)).mono (Plus.old w2) (Plus.not hmb hY2.rest.ml)
    have hA:=tAddZ hY3 (w2.heap.size,Sm.new (cl'.map Prod.fst)) hnew (λe=>by
      obtain⟨z,hz,e⟩:=List.mem_map.1 e
      obtain⟨_,_,_,hs⟩:=hY2.rest.train.segs z hz
      have:=hs.box.lt
      omega) hl
    have HB3:Hid (Below w2.heap.size w2 (w2.alloc (.cells (segCells (.slice (some ⟨g,off+2,none⟩) cl'.length (cap-1)) 0 0 (.pointer none)) 240))):=below_new _ _
    unfold segCells at hA HB3
    clear hY2 hO2 hD hch hnew htail hY3
    go_wp2_with fail
    go_fit hA
    rintro e w4 ⟨rfl,⟨tv4,hY4⟩,hO4⟩
    have HY4:Hid (YardZ w4 (Plus S w) yb mb n0 c {s with outs:=s.outs++[(id,3)],segs:=Sm.new (cl'.map Prod.fst)::zs.map Prod.snd} q sb qv ov1 {x with tv:=tv4} tl ((w2.heap.size,Sm.new (cl'.map Prod.fst))::zs)):=hY4.mono (Plus.three hw2 (Nat.le_trans hw2 HB3.out.size)) hmb
    have HO4:Hid (OnlyT w2 w4 (Plus S w) [201,210]):=(OnlyT.below (ts:=[]) HB3.out).trans hO4 λk hk=>hk
    clear hA hY4 hO4
    go_wp2_with fail
    go_end0
    refine⟨rfl,⟨ov1,tv4,(w2.heap.size,Sm.new (cl'.map Prod.fst))::zs,?_⟩,OnlyT.mono (OnlyT.trans hO.out HO4.out λk hk=>hk) (λ_ h=>h) (by decide)⟩
    have e:newIf (cl'.map Prod.fst)=[Sm.new (cl'.map Prod.fst)]:=by
      unfold newIf
      rw[if_neg (by simpa using hz)]
    rw[e]
    exact HY4.out
section
open Go.Shelf
theorem KeepT.own {W W':World}{row:Option Nat}(hg:W.grownBy W' row)(hr:∀r,row=some r->∃o:Obj,W.heap[r]? =some o/\o.isCells=false):KeepT W W' [tMap]:=
  ⟨hg.size,λk t hk ht=>hg.block k hk.lt λe=>by
    obtain⟨o,ho,hc⟩:=hr k e.symm
    rcases hk with ⟨cur,hk⟩|⟨rfl,_⟩
    · rw[hk] at ho;cases ho;cases hc
    · exact ht (by simp)⟩
theorem OnlyT.own {w W W':World}{S:Nat->Prop}{ts:List TypeId}{B:Nat}{row:Option Nat}(h:OnlyT w W S ts)(hB:w.heap.size<=B)(hg:W.grownBy W' row)(hr:∀r,row=some r->B<=r):OnlyT w W' S ts:=
  ⟨hg.os.trans (Only.os h),hg.tape.trans (Only.tape h),hg.output.trans (Only.output h),Nat.le_trans h.size hg.size,λk hk hn=>(hg.block k (Nat.lt_of_lt_of_le hk h.size) λe=>by have:=hr k e.symm;omega).trans (Only.block h k hk hn)⟩
def EachIs (w W:World)(S:Nat->Prop)(N:Nat)(zs:List (Nat×Sm))(f:Sm->Sm)(pre:List Nat):Prop:=OnlyT w W S [240]/\∀z∈zs,SegAt W S N (z.1,if z.1∈pre then f z.2 else z.2)
theorem EachIs.own {w:World}{S:Nat->Prop}{N:Nat}{zs:List (Nat×Sm)}{f:Sm->Sm}{ps:List Nat}{B:Nat}(hB:w.heap.size<=B):OwnFrom B (λ(pre:List (Pt ps)) W=>EachIs w W S N zs f (pre.map Subtype.val)):=λs W W' row hs hg hr=>
  ⟨hs.1.own hB hg λr e=>(hr r e).1,λz hz=>(hs.2 z hz).keptT (KeepT.own hg λr e=>(hr r e).2) (λ_ h=>h) (Nat.le_refl _) (by decide) (by unfold NoSeg;decide)⟩
theorem EachIs.start {w:World}{S:Nat->Prop}{N:Nat}{zs:List (Nat×Sm)}{f:Sm->Sm}(h:∀z∈zs,SegAt w S N z){W:World}(hb:Below w.heap.size w W):EachIs w W S N zs f []:=
  ⟨OnlyT.below hb,λz hz=>by simpa using (h z hz).kept (λk hk _=>hb.block k hk) (λ_ h=>h) (Nat.le_refl _)⟩
theorem EachIs.step {w W W':World}{S:Nat->Prop}{N:Nat}{zs:List (Nat×Sm)}{f:Sm->Sm}{pre:List Nat}{p:Nat}(h:EachIs w W S N zs f pre)(hnd:(zs.map Prod.fst).Nodup){y:Sm}(hy:(p,y)∈zs)(hO:Only W W' (λk=>k=p))(hs:SegAt W' S N (p,f y)):EachIs w W' S N zs f (pre++[p]):=by
  have hW:TyAt W p 240/\S p:=by
    obtain⟨cv,jv,cl,hz⟩:=h.2 (p,y) hy
    exact⟨hz.box.ty,hz.own⟩
  have hT:OnlyT W W' S [240]:=OnlyT.mk hO λk _ e=>by
    subst e
    exact⟨hW.2,240,by simp,hW.1⟩
  refine⟨OnlyT.mono (OnlyT.trans h.1 hT (Plus.old w)) (λ_ h=>h) (by decide),λz hz=>?_⟩
  by_cases e:z.1=p
  · have:z=(p,y):=by
      have key:∀(l:List (Nat×Sm)),(l.map Prod.fst).Nodup->z∈l->(p,y)∈l->z=(p,y):=λl=>by
        induction l with
        |nil=>intro _ h;cases h
        |cons a l ih=>
          intro hn h1 h2
          rw[List.map_cons,List.nodup_cons] at hn
          rcases List.mem_cons.1 h1 with rfl|h3
          · rcases List.mem_cons.1 h2 with h4|h4
            · exact h4.symm
            · exact absurd (List.mem_map.2 ⟨_,h4,e.symm⟩) hn.1
          · rcases List.mem_cons.1 h2 with rfl|h4
            · exact absurd (List.mem_map.2 ⟨_,h3,e⟩) hn.1
            · exact ih hn.2 h3 h4
      exact key zs hnd hz hy
    subst this
    simpa using hs
  · obtain⟨cv,jv,cl,hseg⟩:=h.2 z hz
    have e2:(z.1∈pre++[p])↔z.1∈pre:=by simp[e]
    simp only[e2]
    exact⟨cv,jv,cl,(hO.block _ hseg.box.lt e).trans hseg.box,hseg.chs.keptT hT.k (λ_ h=>h) (by decide) (by decide),hseg.job.keptT hT.k (λ_ h=>h) (Nat.le_refl _) (by decide) (by decide),hseg.own⟩
theorem EachIs.done {w W:World}{S:Nat->Prop}{yb mb n0:Nat}{c:Cfg}{s:Ts}{q:List Pw}{sb:Nat}{qv ov:Value}{x:Xt}{tl:List Tp}{zs:List (Nat×Sm)}{f:Sm->Sm}(h:YardZ w S yb mb n0 c s q sb qv ov x tl zs)(hE:EachIs w W S (s.top n0) zs f (zs.map Prod.fst)):YardZ W S yb mb n0 c {s with segs:=s.segs.map f} q sb qv ov x tl (zs.map λz=>(z.1,f z.2)):=by
  have hi:=λ(k:Nat) (hk:S k)=>hk
  have O:=hE.1
  refine YardZ.mk' ⟨h.rest.nm,Nat.lt_of_lt_of_le h.rest.ml O.size,h.rest.tip,O.map h.rest.map (by decide),h.rest.main.keptT O.k hi (by decide) (by decide),?_,?_,h.rest.train.own,?_,λz hz=>?_⟩ h.is.qs (O.bx h.is.box (by decide)) (h.is.que.keptT O.k hi (by decide) (by decide)) (O.sub h.is.sub (by decide)) (h.is.outs.keptT O.k hi (by decide)) h.is.fy h.is.fs h.is.nt
  · rw[List.map_map,<-h.rest.train.snd,List.map_map];rfl
  · have:=O.sl h.rest.train.row (by decide)
    rw[List.length_map,List.map_map]
    exact this
  · have:=h.rest.train.nd
    rw[List.map_map]
    exact this
  · obtain⟨z',hz',rfl⟩:=List.mem_map.1 hz
    have:=hE.2 z' hz'
    rwa [if_pos (List.mem_map_of_mem hz')] at this
theorem keeps_only {W W':World}{B p:Nat}{t:TypeId}(hO:Only W W' (λk=>k=p))(ht:TyAt W p t)(hne:t≠tMap):KeepsFrom B W W':=
  ⟨hO.size,λk o _ hk ho=>(hO.block k (Array.getElem?_eq_some_iff.1 hk).1 λe=>by
    subst e
    rcases ht with ⟨cur,ht⟩|⟨e,_⟩
    · rw[ht] at hk;cases hk;cases ho
    · exact hne e).trans hk⟩
theorem kp_only {W W':World}{p:Nat}{v:Value}{n:Nat}{xs:List Value}(hO:Only W W' (λk=>k=p))(ht:TyAt W p 240)(hs:Sl W 210 1 v n xs):KpOf v W W':=λg hg=>hO.block g (hs.lt hg) λe=>by
  subst e
  exact absurd (ht.one (hs.ty hg)) (by decide)
end
theorem seg_newd {w:World}{S:Nat->Prop}{N:Nat}{cv:Value}{l:List Cg}{cl:List Cw}(h:ChsIs w S cv l cl):SegAt (w.alloc (.cells (segCells cv 0 0 (.pointer none)) 240)).drew (Plus S w) N (w.heap.size,Sm.new l):=
  (seg_new h).keptT (ts:=[]) ⟨Nat.le_refl _,λ_ _ _ _=>rfl⟩ (λ_ h=>h) (Nat.le_refl _) (by decide) (by unfold NoSeg;decide)
theorem fresh_ptr {w:World}{S:Nat->Prop}{N:Nat}{zs:List (Nat×Sm)}(h:∀z∈zs,SegAt w S N z){p:Nat}(hp:w.heap.size<=p):p∉zs.map Prod.fst:=λe=>by
  obtain⟨z,hz,rfl⟩:=List.mem_map.1 e
  obtain⟨_,_,_,hs⟩:=h z hz
  have:=hs.box.lt
  omega
theorem tSplit {S:Nat->Prop}{yb mb n0 p k:Nat}{c:Cfg}{s:Ts}{f:Sm}{w:World}{q:List Pw}{sb:Nat}{qv ov:Value}{x:Xt}{tl:List Tp}{zs:List (Nat×Sm)}(h:YardZ w S yb mb n0 c s q sb qv ov x tl ((p,f)::zs))(hk:0<k)(hkl:k<f.l.length)(h8:f.l.length<=8)(hl:zs.length<1048575000):
    Calls prog 211 #[ptr yb,ptr p,.int .i64 k] w λe w'=>e=.returned (.tuple #[])/\(∃tv' zs',YardZ w' (Plus S w) yb mb n0 c (s.split f k (zs.map Prod.snd)) q sb qv ov {x with tv:=tv'} tl zs'/\zs'.length<=zs.length+2)/\OnlyT w w' S [201,210]:=by
  obtain⟨cv,jv,cl,hseg⟩:=h.rest.train.segs (p,f) (by simp)
  have hcl:cl.length=f.l.length:=by rw[<-hseg.chs.fst,List.length_map]
  obtain⟨g,off,cap,rfl,hnc,hcm⟩:=hseg.chs.row.addr (by omega)
  have hD:=tDropZ h
  have HY:Hid (YardZ w S yb mb n0 c s q sb qv ov x tl ((p,f)::zs)):=h
  have HSeg:Hid (SegIs w S (s.top n0) p f (.slice (some ⟨g,off,none⟩) cl.length cap) jv cl):=hseg
  have HCL:Hid (cl.length=f.l.length):=hcl
  unfold maxLen at hcm
  rw[<-hcl] at hkl h8
  clear h hseg hcl
  unfold ptr
  go_enter func211,ntmps211
  go_upto_region 1 with fail
  go_fit hD
  rintro e w1 ⟨rfl,⟨tv1,hY1⟩,hO1⟩
  have hB1:=hO1.bx HSeg.out.box (by decide)
  have hch:ChsIs w1 S (.slice (some ⟨g,off,none⟩) cl.length cap) f.l cl:=HSeg.out.chs.keptT hO1.k (λ_ h=>h) (by decide) (by decide)
  have hcap1:¬cap-k=0:=by omega
  have hc1:¬cap=k:=by omega
  have htail:=hch.tail (k:=k) (by rw[<-HCL.out];omega) (off':=off+k*2) (.inl rfl)
  rw[if_neg hcap1] at htail
  have hnew:=seg_newd (N:=Ts.top n0 {s with segs:=zs.map Prod.snd}) htail
  have hY2:YardZ (w1.alloc (.cells (segCells (.slice (some ⟨g,off+k*2,none⟩) (cl.length-k) (cap-k)) 0 0 (.pointer none)) 240)).drew (Plus S w1) yb mb n0 c {s with segs:=zs.map Prod.snd} q sb qv ov {x with tv:=tv1} tl zs:=(hY1.later (below_new_drew _ _)).mono (Plus.old w1) hY1.is.np
  have hA:=tAddZ hY2 (w1.heap.size,Sm.new (f.l.drop k)) hnew (fresh_ptr hY1.rest.train.segs (Nat.le_refl _)) (by omega)
  have c0:w1.cell? ⟨p,0,none⟩=some (.slice (some ⟨g,off,none⟩) cl.length cap):=hB1.cell (i:=0) rfl
  have HO1:Hid (OnlyT w w1 S [201,210]):=hO1
  have HB2:Hid (Below w1.heap.size w1 (w1.alloc (.cells (segCells (.slice (some ⟨g,off+k*2,none⟩) (cl.length-k) (cap-k)) 0 0 (.pointer none)) 240)).drew):=below_new_drew _ _
  have HC1:Hid (ChsIs w1 S (.slice (some ⟨g,off,none⟩) cl.length cap) f.l cl):=hch
  have HP1:Hid (Bx w1 p 240 (segCells (.slice (some ⟨g,off,none⟩) cl.length cap) f.fails f.by_ jv)):=hB1
  have hmb:Hid (¬Plus S w mb):=HY.out.is.np
  have hw1:w.heap.size<=w1.heap.size:=hO1.size
  have q1:(k:Int)<=cl.length:=by omega
  have q2:(0:Int)<=k:=by omega
  have wk:IntKind.i64.wrap (k:Int)=k:=wrap_i64 (by omega) (by omega)
  unfold segCells at hA HB2
  clear hD hY1 hO1 hch htail hnew hY2 hB1
  go_upto_region 1 with fail
  go_cut [] from 22 (λwz=>∃tv,YardZ wz (Plus S w) yb mb n0 c {s with segs:=Sm.new (f.l.drop k)::zs.map Prod.snd} q sb qv ov {x with tv:=tv} tl ((w1.heap.size,Sm.new (f.l.drop k))::zs)/\OnlyT w1 wz S [201,210])
  case first=>
    go_region_held_law (λw'=>w'.cell? ⟨p,0,none⟩=some (.slice (some ⟨g,off,none⟩) cl.length cap)) (go_keep) ((go_at_call 245;refine hA.mono ?_;rintro e w3 ⟨rfl,⟨tv3,hY3⟩,hO3⟩;have x3:w3.cell? ⟨p,0,none⟩=some (.slice (some ⟨g,off,none⟩) cl.length cap):=(hO3.bx (Bx.later HP1.out HB2.out) (by decide)).cell (i:=0) rfl;have HY3:Hid (YardZ w3 (Plus S w) yb mb n0 c {s with segs:=Sm.new (f.l.drop k)::zs.map Prod.snd} q sb qv ov {x with tv:=tv3} tl ((w1.heap.size,Sm.new (f.l.drop k))::zs)):=(hY3.mono (λk hk=>Plus.three hw1 (Nat.le_trans hw1 HB2.out.size) k (hk.imp (λh=>h.imp .inl (λh=>h)) (λh=>h))) hmb.out);have HO3:Hid (OnlyT w1 w3 S [201,210]):=OnlyT.trans (OnlyT.below (ts:=[]) HB2.out) hO3 (λk hk=>hk);clear hY3 hO3))
    all_goals
      go_wp2_with fail
      go_meet
      case rel=>exact⟨tv3,HY3.out,HO3.out⟩
  case rest=>
    obtain⟨tv3,hY3,hO3⟩:=hcut
    rename World=>wz
    have hPz:=hO3.bx HP1.out (by decide)
    have hch:ChsIs wz (Plus S w) (.slice (some ⟨g,off,none⟩) cl.length cap) f.l cl:=HC1.out.keptT hO3.k (Plus.old w) (by decide) (by decide)
    have hcut:=hch.cut (k:=k) (by rw[<-HCL.out];omega)
    have hwz:w.heap.size<=wz.heap.size:=Nat.le_trans hw1 hO3.size
    have hnew:=seg_newd (N:=Ts.top n0 {s with segs:=Sm.new (f.l.drop k)::zs.map Prod.snd}) hcut
    have hY4:YardZ (wz.alloc (.cells (segCells (.slice (some ⟨g,off,none⟩) k cap) 0 0 (.pointer none)) 240)).drew (Plus (Plus S w) wz) yb mb n0 c {s with segs:=Sm.new (f.l.drop k)::zs.map Prod.snd} q sb qv ov {x with tv:=tv3} tl ((w1.heap.size,Sm.new (f.l.drop k))::zs):=(hY3.later (below_new_drew _ _)).mono (Plus.old wz) hY3.is.np
    have hA:=tAddZ hY4 (wz.heap.size,Sm.new (f.l.take k)) hnew (fresh_ptr hY3.rest.train.segs (Nat.le_refl _)) (by rw[List.length_cons];omega)
    have c0:wz.cell? ⟨p,0,none⟩=some (.slice (some ⟨g,off,none⟩) cl.length cap):=hPz.cell (i:=0) rfl
    have HBz:Hid (Below wz.heap.size wz (wz.alloc (.cells (segCells (.slice (some ⟨g,off,none⟩) k cap) 0 0 (.pointer none)) 240)).drew):=below_new_drew _ _
    have HPz:Hid (Bx wz p 240 (segCells (.slice (some ⟨g,off,none⟩) cl.length cap) f.fails f.by_ jv)):=hPz
    have HOz:Hid (OnlyT w wz S [201,210]):=OnlyT.mono (OnlyT.trans HO1.out hO3 (Plus.old w)) (λ_ h=>h) (by decide)
    have q3:(k:Int)<=cap:=by omega
    unfold segCells at hA HBz
    clear hY3 hO3 hPz hch hcut hnew hY4
    go_wp2_with fail
    go_region_held_law (λw'=>w'.cell? ⟨p,0,none⟩=some (.slice (some ⟨g,off,none⟩) cl.length cap)) (go_keep) ((go_at_call 245;refine hA.mono ?_;rintro e w5 ⟨rfl,⟨tv5,hY5⟩,hO5⟩;have x5:w5.cell? ⟨p,0,none⟩=some (.slice (some ⟨g,off,none⟩) cl.length cap):=(hO5.bx (Bx.later HPz.out HBz.out) (by decide)).cell (i:=0) rfl;have HY5:Hid (YardZ w5 (Plus S w) yb mb n0 c {s with segs:=Sm.new (f.l.take k)::Sm.new (f.l.drop k)::zs.map Prod.snd} q sb qv ov {x with tv:=tv5} tl ((wz.heap.size,Sm.new (f.l.take k))::(w1.heap.size,Sm.new (f.l.drop k))::zs)):=(hY5.mono (Plus.three hwz (Nat.le_trans hwz HBz.out.size)) hmb.out);have HO5:Hid (OnlyT w w5 S [201,210]):=OnlyT.mono (OnlyT.trans HOz.out (OnlyT.trans (OnlyT.below (ts:=[]) HBz.out) hO5 (λk hk=>hk)) (λk hk=>hk)) (λ_ h=>h) (by decide);clear hY5 hO5))
    all_goals
      go_wp2_with fail
      go_end0
      exact⟨rfl,⟨tv5,_,HY5.out,by simp⟩,HO5.out⟩
section
open Go.Shelf
attribute [local go_sem] Oper.semAt_some
end
section
open Go.Shelf
attribute [local go_sem] Oper.semAt_some
theorem OnlyT.drewN {w W:World}{S:Nat->Prop}{ts:List TypeId}(h:OnlyT w W S ts)(n:Nat):OnlyT w (W.drewN n) S ts:=by
  have h':Only w W _:=h
  exact⟨h'.os,h'.tape,h'.output,h'.size,h'.block⟩
theorem KeepT.drewN (W:World)(n:Nat):KeepT W (W.drewN n) []:=⟨Nat.le_refl _,λ_ _ _ _=>rfl⟩
theorem keeps_drew {B:Nat}(W:World)(n:Nat):KeepsFrom B W (W.drewN n):=⟨Nat.le_refl _,λ_ _ _ hk _=>hk⟩
end
theorem info_int:(prog.info? 3).map (λi=>(i.zero,i.size,i.bytes))=some (some (.int .i64 0),1,8):=by kernel_rfl
theorem ChsIs.sl {w:World}{S:Nat->Prop}{cv:Value}{l:List Cg}{cl:List Cw}(h:ChsIs w S cv l cl):∀y∈cl,IsSl y.2:=λy hy=>by
  obtain⟨a,cap,e⟩:=(h.eds y hy).1.form
  exact⟨a,_,cap,e⟩
theorem segIds (p:Nat)(cs:Array Value)(cv:Value)(cl:List Cw)(w:World)(hB:Bx w p 240 cs)(h0:cs[0]? =some cv)(hS:Sl w 273 2 cv cl.length (cl.flatMap cC))(hsl:∀y∈cl,IsSl y.2)(hn:cl.length<=8):
    Calls prog 149 #[ptr p] w λe w'=>(∃v',e=.returned v'/\w'.ownsRow w.heap.size 3 1 v' cl.length (cl.map λy=>cI y.1.1))/\Below w.heap.size w w':=by
  obtain⟨i0,hi0,hz0,hz1,hz2⟩:=info_parts info_int
  obtain⟨ca,ccap,rfl⟩:=hS.form
  have c0:=hB.cell h0
  have HS:Hid (Sl w 273 2 (.slice ca cl.length ccap) cl.length (cl.flatMap cC)):=hS
  have HSL:Hid (∀y∈cl,IsSl y.2):=hsl
  clear hB h0 hS hsl
  unfold ptr
  go_enter func149,ntmps149
  go_wp2_with fail
  clear c0
  go_loopw [3,11] (λlv iv wr=>∃k:Nat,k<=cl.length/\iv=.int .i64 k/\Hid (wr.ownsRow w.heap.size 3 1 lv k ((cl.take k).map λy=>cI y.1.1))/\Hid (Below w.heap.size w wr)) (λ_ i _=>cl.length-(intOf i).toNat)
  case atStart=>exact⟨0,Nat.zero_le _,rfl,World.ownsRow_nil _ _ _ _,Below.refl _ _⟩
  case round=>
    obtain⟨k,hk,rfl,hr,hb⟩:=hrel
    by_cases hlk:k<cl.length
    · obtain⟨g,off,cap,hv,_⟩:=HS.out.addr (by omega)
      cases hv
      obtain⟨ea,en,ec,he⟩:=HSL.out _ (List.getElem_mem hlk)
      have d0:wr.cell? ⟨g,off+k*2,none⟩=some (.int .i64 cl[k].1.1):=jcell_after hb.out (HS.out.cell (j:=k*2) (by rw[show k*2=k*2+0 from rfl,flat_get cC 2 (λ_=>rfl) cl k 0 hlk (by omega)];rfl))
      have d1:wr.cell? ⟨g,off+k*2+1,none⟩=some (.slice ea en ec):=by
        have:=HS.out.cell (j:=k*2+1) (u:=.slice ea en ec) (by rw[flat_get cC 2 (λ_=>rfl) cl k 1 hlk (by omega),<-he];rfl)
        rw[<-Nat.add_assoc] at this
        exact jcell_after hb.out this
      have HW:Hid (((cl.take (k+1)).map λy=>cI y.1.1)=((cl.take k).map λy=>cI y.1.1)++[.int .i64 cl[k].1.1]):=by
        show _=_
        rw[List.take_succ_eq_append_getElem hlk,List.map_append];rfl
      generalize cl[k].1.1=x0 at *
      clear he
      have q1:Hid (k+1<=maxLen):=by show _<=_;unfold maxLen;omega
      have q2:Hid ((k+1)*8<=140737488355328):=by show _<=_;omega
      have q3:Hid (∀o o',w.heap.size<=((wr.alloc o).alloc o').heap.size):=λo o'=>by
        have:=hb.out.size
        show w.heap.size<=_
        simp;omega
      go_wp2_with (at_builtin;refine wpList_append_own_at _ rfl (.tmp 15) (.tmp 18) _ rfl w.heap.size _ i0 _ 1 8 underlying56 hi0 hz0 hz1 hz2 rfl (by decide) u3 _ _ rfl (World.ownsRow.alloc (World.ownsRow.alloc hr.out _) _) ⟨wr.heap.size+1,0,none⟩ 1 1 [.int .i64 x0] rfl rfl (cells_new2 wr _ _ _) (by simp[Value.oneCell']) q1.out q2.out (q3.out _ _) ?_;intro v3 w3 hown3 hg3 hnil3 hloc3)
      refine⟨⟨k+1,hlk,by go_num,?_,?_⟩,by simp[intOf];omega⟩
      · show w3.ownsRow _ _ _ _ _ _
        rw[HW.out]
        exact hown3
      · exact((hb.out.alloc hb.out.size _).alloc (q3' hb.out _) _).grown hg3 (q3.out _ _) (λi hi=>(World.ownsRow.lt hr.out i hi).1)
    · obtain rfl:k=cl.length:=by omega
      have hr':Hid (wr.ownsRow w.heap.size 3 1 u3 cl.length (cl.map λy=>cI y.1.1)):=by
        have:=hr.out
        rwa [List.take_length] at this
      obtain⟨a4,c4,rfl⟩:=row_form hr'.out
      clear hr
      go_wp2_with fail
      go_ret
      exact⟨⟨_,rfl,hr'.out⟩,hb.out⟩
section
open Go.Shelf
attribute [local go_sem] Oper.semAt_some
theorem results_cell2 {fn:Func}{p u ty tu:Nat}(h:fn.results=#[.cell p ty,.cell u tu])(tmps:Array Value)(P:Program)(w:World):
    (results fn tmps).run P w=((asAddr (tmps.getD p undef)).run P w).andThen λa w₁=>((loadVar ty a).run P w₁).andThen λv w₂=>((asAddr (tmps.getD u undef)).run P w₂).andThen λb w₃=>((loadVar tu b).run P w₃).andThen λv' w₄=>.ok (.tuple #[v,v']) w₄:=by
  simp only[results,h]
  simp
theorem nodup_key {z z':Nat×Sm}:∀{l:List (Nat×Sm)},(l.map Prod.fst).Nodup->z∈l->z'∈l->z.1=z'.1->z=z'
  |[],_,h,_,_=>by cases h
  |a::l,hn,h1,h2,e=>by
    rw[List.map_cons,List.nodup_cons] at hn
    rcases List.mem_cons.1 h1 with rfl|h3
    · rcases List.mem_cons.1 h2 with h4|h4
      · exact h4.symm
      · exact absurd (List.mem_map.2 ⟨_,h4,e.symm⟩) hn.1
    · rcases List.mem_cons.1 h2 with rfl|h4
      · exact absurd (List.mem_map.2 ⟨_,h3,e⟩) hn.1
      · exact nodup_key hn.2 h3 h4 e
theorem tested_res {W:World}{b d:Nat}{v:Value}{t:Bool}(h4:Bx W b 210 #[v])(h5:Bx W d 4 #[.bool t])(tmps:Array Value)(e4:tmps.getD 4 undef=.pointer (some ⟨b,0,none⟩))(e5:tmps.getD 5 undef=.pointer (some ⟨d,0,none⟩)):
    (results Tryz.f118 tmps).run prog W=.ok (.tuple #[v,.bool t]) W:=by
  have x4:=h4.cell (i:=0) rfl
  have x5:=h5.cell (i:=0) rfl
  rw[results_cell2 (p:=4) (u:=5) (ty:=210) (tu:=4) rfl,e4,e5]
  simp[x4,x5,go_sem,loadVar]
def Sm.runsI (x:Sm)(num:Int):Bool:=match x.job with|some j=>(j.num:Int)==num|none=>false
theorem Sm.runsI_nat (x:Sm)(n:Nat):x.runsI n=x.runs n:=by
  unfold Sm.runsI Sm.runs
  cases x.job with
  |none=>rfl
  |some j=>
    show ((j.num:Int)==(n:Int))=(j.num==n)
    rw[Bool.eq_iff_iff,beq_iff_eq,beq_iff_eq];omega
def TestIs (w W:World)(zs:List (Nat×Sm))(num:Int)(c:Code):Prop:=c=.ret/\∃z∈zs,z.2.runsI num=true/\Below w.heap.size w W/\Bx W (w.heap.size+1) 210 #[ptr z.1]/\Bx W (w.heap.size+1+1) 4 #[.bool true]
theorem bx_own {W W':World}{p:Nat}{t:TypeId}{cs:Array Value}{row:Option Nat}{B:Nat}(h:Bx W p t cs)(hg:W.grownBy W' row)(hr:∀r,row=some r->B<=r)(hp:p<B):Bx W' p t cs:=(hg.block p h.lt λe=>by have:=hr p e.symm;omega).trans h
theorem below_own {w W W':World}{N:Nat}{row:Option Nat}{B:Nat}(h:Below N w W)(hN:N<=w.heap.size)(hg:W.grownBy W' row)(hr:∀r,row=some r->B<=r)(hB:N<=B):Below N w W':=
  ⟨hg.os.trans h.os,hg.tape.trans h.tape,hg.output.trans h.output,Nat.le_trans h.size hg.size,λk hk=>(hg.block k (by have:=h.size;omega) λe=>by have:=hr k e.symm;omega).trans (h.block k hk)⟩
theorem TestIs.own {w:World}{zs:List (Nat×Sm)}{num:Int}{B:Nat}{α:Type}(hB:w.heap.size+3<=B)(c:Code):OwnFrom B (λ(_:List α) W=>TestIs w W zs num c):=λs W W' row hs hg hr=>by
  obtain⟨rfl,z,hz,hzr,hb,h4,h5⟩:=hs
  exact⟨rfl,z,hz,hzr,below_own hb (Nat.le_refl _) hg (λr e=>(hr r e).1) (by omega),bx_own h4 hg (λr e=>(hr r e).1) (by omega),bx_own h5 hg (λr e=>(hr r e).1) (by omega)⟩
def NotYet (w1 W:World)(zs:List (Nat×Sm))(num:Int)(pre:List Nat):Prop:=Below w1.heap.size w1 W/\∀z∈zs,z.1∈pre->z.2.runsI num=false
theorem NotYet.own {w1:World}{zs:List (Nat×Sm)}{num:Int}{B:Nat}{ps:List Nat}(hB:w1.heap.size<=B):OwnFrom B (λ(pre:List (Pt ps)) W=>NotYet w1 W zs num (pre.map Subtype.val)):=λ_ _ _ _ hs hg hr=>
  ⟨below_own hs.1 (Nat.le_refl _) hg (λr e=>(hr r e).1) hB,hs.2⟩
theorem tTestedI {S:Nat->Prop}{yb mb n0:Nat}(num:Int){c:Cfg}{s:Ts}{w:World}{q:List Pw}{sb:Nat}{qv ov:Value}{x:Xt}{tl:List Tp}{zs:List (Nat×Sm)}(h:YardZ w S yb mb n0 c s q sb qv ov x tl zs)(hl:zs.length<=8):
    Calls prog 118 #[ptr yb,.int .i64 num] w λe w'=>Below w.heap.size w w'/\((∃z∈zs,z.2.runsI num=true/\e=.returned (.tuple #[ptr z.1,.bool true]))\/((∀z∈zs,z.2.runsI num=false)/\e=.returned (.tuple #[.pointer none,.bool false]))):=by
  obtain⟨ta,tcap,htv⟩:=h.rest.train.row.form
  have hpl:(zs.map Prod.fst).length=zs.length:=List.length_map _
  have hrow:Sl w 210 1 (.slice ta zs.length tcap) zs.length ((zs.map Prod.fst).map ptr):=by
    have:=h.rest.train.row
    rw[List.map_map,<-htv]
    exact this
  have c11:w.cell? ⟨yb,11,none⟩=some (.slice ta zs.length tcap):=by rw[<-htv];exact h.is.box.cell (i:=11) rfl
  have hyb:=h.is.box.lt
  have HY:Hid (YardZ w S yb mb n0 c s q sb qv ov x tl zs):=h
  have HRow:Hid (Sl w 210 1 (.slice ta zs.length tcap) zs.length ((zs.map Prod.fst).map ptr)):=hrow
  have HB1:Hid (Below w.heap.size w (((w.alloc (.cells #[.int .i64 num] 3)).alloc (.cells #[.pointer none] 210)).alloc (.cells #[.bool false] 4))):=((below_new w _).trans ((below_new _ _).mono (by simp))).trans ((below_new _ _).mono (by simp;omega))
  have HX3:Hid (Bx (((w.alloc (.cells #[.int .i64 num] 3)).alloc (.cells #[.pointer none] 210)).alloc (.cells #[.bool false] 4)) w.heap.size 3 #[.int .i64 num]):=((Bx.new _ _ _).mk _).mk _
  have HX4:Hid (Bx (((w.alloc (.cells #[.int .i64 num] 3)).alloc (.cells #[.pointer none] 210)).alloc (.cells #[.bool false] 4)) (w.heap.size+1) 210 #[.pointer none]):=by
    have:=(Bx.new (w.alloc (.cells #[.int .i64 num] 3)) #[.pointer none] 210).mk (.cells #[.bool false] 4)
    rwa [World.size_alloc] at this
  have HX5:Hid (Bx (((w.alloc (.cells #[.int .i64 num] 3)).alloc (.cells #[.pointer none] 210)).alloc (.cells #[.bool false] 4)) (w.heap.size+1+1) 4 #[.bool false]):=by
    have:=Bx.new ((w.alloc (.cells #[.int .i64 num] 3)).alloc (.cells #[.pointer none] 210)) #[.bool false] 4
    rwa [World.size_alloc,World.size_alloc] at this
  have HSz:Hid ((((w.alloc (.cells #[.int .i64 num] 3)).alloc (.cells #[.pointer none] 210)).alloc (.cells #[.bool false] 4)).heap.size=w.heap.size+3):=by
    show _=_
    simp
  clear h htv hrow
  unfold ptr
  refine(callsIn_wide (n:=3)).1 ?_
  refine callsIn_of_wp_marks func118 rfl trivial ?_ rfl
  simp only[ntmps118,List.size_toArray,List.length_cons,List.length_nil,Nat.reduceAdd,Nat.reduceSub,Array.replicate_succ,Array.replicate_zero,List.push_toArray,List.append_toArray,List.nil_append,List.cons_append]
  gi_upto_region 1 with fail
  generalize ((w.alloc (.cells #[.int .i64 num] 3)).alloc (.cells #[.pointer none] 210)).alloc (.cells #[.bool false] 4)=w1 at *
  have c12:w1.cell? ⟨yb,11,none⟩=some (.slice ta zs.length tcap):=(HB1.out.cell (p:=⟨yb,11,none⟩) hyb).trans c11
  have HR1:Hid (Sl w1 210 1 (.slice ta zs.length tcap) zs.length ((zs.map Prod.fst).map ptr)):=HRow.out.later HB1.out
  have hB0:Hid (Below w1.heap.size w1 (w1.alloc (.cells #[.slice ta zs.length tcap] 195))):=below_new _ _
  clear c11
  gi_wp2_with (refine⟨trivial,?_⟩;gi_at_call 147;refine(callsIn_wide.2 (lineAll yb ta zs.length tcap w1 c12)).mono ?_;rintro e w' ⟨rfl,rfl⟩)
  refine wpIn_rangeFunc_ownG (α:=Pt (zs.map Prod.fst)) (n:=3) (F:=Fence.wide) rfl (by decide) (gf:=223) (lb:=#[.pointer (some ⟨w1.heap.size,0,none⟩)]) rfl trivial (enters_of func223 (by kernel_rfl) rfl)
    (sv_stops Fence.wide 2 trivial rfl (by decide) w1.heap.size (.slice ta zs.length tcap) (zs.map Prod.fst) (by rw[hpl];omega) (w1.alloc (.cells #[.slice ta zs.length tcap] 195)) (by simp) (by simp) (by rw[hpl];exact HR1.out.mk _)) kpOf_t (kpOf_b λg hg=>Nat.lt_of_lt_of_le (HR1.out.lt hg) hB0.out.size) (Below.refl _ _) (λ_=>rfl)
    (λpre W=>NotYet w1 W zs num (pre.map Subtype.val)) (λc _ W=>TestIs w W zs num c) (NotYet.own hB0.out.size) (λc=>TestIs.own (by have:=HSz.out;have:=hB0.out.size;omega) c) ⟨hB0.out,λ_ _ h=>by simp at h⟩
    (λy=>{tmps:=#[.pointer (some ⟨yb,0,none⟩),.int .i64 num,undef,.pointer (some ⟨w.heap.size,0,none⟩),.pointer (some ⟨w.heap.size+1,0,none⟩),.pointer (some ⟨w.heap.size+1+1,0,none⟩),.pointer (some ⟨y.1,0,none⟩),.pointer (some ⟨yb,0,none⟩),.pointer (some ⟨yb,0,none⟩),.pointer (some ⟨yb,11,none⟩),.func (.func 223) #[] #[.pointer (some ⟨w1.heap.size,0,none⟩)],.pointer (some ⟨y.1,0,none⟩),undef,undef,undef,undef,undef,undef,undef,undef,undef,undef,undef,undef,undef,undef,undef,undef,undef],defers:=[]}) ?assign ?body ?done ?stop
  case assign=>
    intro l y W K hK
    unfold ptr
    gi_wp2
    exact hK
  case body=>
    rintro l pre ⟨p,hp⟩ W hE _
    obtain⟨⟨p',y⟩,hz,rfl⟩:=List.mem_map.1 hp
    obtain⟨cv,jv,cl,hseg⟩:=HY.out.rest.train.segs (p',y) hz
    have hW:Below w.heap.size w W:=HB1.out.trans (hE.1.mono HB1.out.size)
    have hbx:Bx W p' 240 (segCells cv y.fails y.by_ jv):=(hW.block _ hseg.box.lt).trans hseg.box
    have c3:=hbx.c 3 jv
    have hs1:w.heap.size<w1.heap.size:=by have:=HSz.out;omega
    have hb3:Bx W w.heap.size 3 #[.int .i64 num]:=(hE.1.block _ HX3.out.lt).trans HX3.out
    have hx3:=hb3.cell (i:=0) rfl
    have HX4':Hid (Bx W (w.heap.size+1) 210 #[.pointer none]):=(hE.1.block _ HX4.out.lt).trans HX4.out
    have HX5':Hid (Bx W (w.heap.size+1+1) 4 #[.bool false]):=(hE.1.block _ HX5.out.lt).trans HX5.out
    have HE:Hid (NotYet w1 W zs num (pre.map Subtype.val)):=hE
    have HW:Hid (Below w.heap.size w W):=hW
    have HN:Hid (y.runsI num=false->∀n,NotYet w1 (W.drewN n) zs num ((pre++[(⟨p',hp⟩:Pt (zs.map Prod.fst))]).map Subtype.val)):=λhr n=>by
      refine⟨⟨HE.out.1.os,HE.out.1.tape,HE.out.1.output,HE.out.1.size,HE.out.1.block⟩,λz hz' hm=>?_⟩
      rw[List.map_append,List.mem_append] at hm
      rcases hm with hm|hm
      · exact HE.out.2 z hz' hm
      · have e:z.1=p':=by simpa using hm
        have:=nodup_key HY.out.rest.train.nd hz' hz e
        subst this
        exact hr
    clear hE hW
    cases ej:y.job with
    |none=>
      have ejv:jv=.pointer none:=by have:=hseg.job;rw[ej] at this;exact this
      subst ejv
      have Hs:=HN.out (by unfold Sm.runsI;rw[ej])
      clear hseg hbx
      refine wpIn_block (wpIn_seq (wpIn_round_quiet rfl (by kernel_rfl) rfl ?_))
      repeat (first|go_big_quiet_step (fail)|quiet_step (fail))
      refine wpQuiet_nil ?_
      rintro _ ⟨nq,rfl⟩
      show Code.wpIn _ _ _ _ _ _ _
      gi_wp2
      exact⟨keeps_drew _ _,λ_ _=>rfl,Hs nq⟩
    |some j=>
      obtain⟨jb,jt,jfl,rfl,hJ,-,-,-,-,-⟩:JobIs w S (s.top n0) jv (some j):=ej▸hseg.job
      have hJ':Bx W jb 242 #[.int .i64 j.num,.int .i64 j.til,jt]:=(HW.out.block _ hJ.lt).trans hJ
      have j0:=hJ'.cell (i:=0) rfl
      unfold ptr at c3
      clear hseg hbx
      by_cases hdue:(j.num:Int)=num
      · subst hdue
        have hd:decide ((j.num:Int)=(j.num:Int))=true:=by simp
        have f4:=HX4'.out.fr 0
        have f5:=HX5'.out.fr 0
        have x4:=HX4'.out.cell (i:=0) rfl
        have x5:=HX5'.out.cell (i:=0) rfl
        refine wpIn_block (wpIn_seq (wpIn_round_quiet rfl (by kernel_rfl) rfl ?_))
        repeat (first|go_big_quiet_step (fail)|quiet_step (fail))
        refine wpQuiet_nil ?_
        rintro _ ⟨nq,rfl⟩
        show Code.wpIn _ _ _ _ _ _ _
        gi_wp2
        have hg:Only W (((W.drewN nq).setCell ⟨w.heap.size+1,0,none⟩ (.pointer (some ⟨p',0,none⟩))).setCell ⟨w.heap.size+1+1,0,none⟩ (.bool true)) (λk=>w.heap.size<=k/\k<w1.heap.size):=by
          have:=HSz.out
          exact Only.set (Only.set (⟨rfl,rfl,rfl,Nat.le_refl _,λ_ _ _=>rfl⟩:Only W (W.drewN nq) _) (.inl ⟨Nat.le_succ _,by show w.heap.size+1<_;omega⟩)) (.inl ⟨by show _<=w.heap.size+1+1;omega,by show w.heap.size+1+1<_;omega⟩)
        have h4:Bx (((W.drewN nq).setCell ⟨w.heap.size+1,0,none⟩ (.pointer (some ⟨p',0,none⟩))).setCell ⟨w.heap.size+1+1,0,none⟩ (.bool true)) (w.heap.size+1) 210 #[ptr p']:=by
          have e:Bx (W.drewN nq) (w.heap.size+1) 210 #[.pointer none]:=HX4'.out
          exact Bx.other (Bx.set e 0 (ptr p')) (by omega) 0 _
        have h5:Bx (((W.drewN nq).setCell ⟨w.heap.size+1,0,none⟩ (.pointer (some ⟨p',0,none⟩))).setCell ⟨w.heap.size+1+1,0,none⟩ (.bool true)) (w.heap.size+1+1) 4 #[.bool true]:=by
          have e:Bx (W.drewN nq) (w.heap.size+1+1) 4 #[.bool false]:=HX5'.out
          exact Bx.set (Bx.other e (by omega) 0 _) 0 (.bool true)
        refine⟨⟨hg.size,λk o hB hk ho=>(hg.block k (Array.getElem?_eq_some_iff.1 hk).1 λe=>?_).trans hk⟩,rfl,(p',y),hz,by unfold Sm.runsI;rw[ej];simp,?_,h4,h5⟩
        · have:=hB0.out.size
          have:=e.2
          omega
        · have hb:Below w.heap.size w W:=HW.out
          exact⟨hg.os.trans hb.os,hg.tape.trans hb.tape,hg.output.trans hb.output,Nat.le_trans hb.size hg.size,λk hk=>(hg.block k (by have:=hb.size;omega) λe=>by have:=e.1;omega).trans (hb.block k hk)⟩
      · have hd:decide ((j.num:Int)=num)=false:=by rw[decide_eq_false_iff_not];omega
        have Hs:=HN.out (by unfold Sm.runsI;rw[ej];simpa using hdue)
        refine wpIn_block (wpIn_seq (wpIn_round_quiet rfl (by kernel_rfl) rfl ?_))
        repeat (first|go_big_quiet_step (fail)|quiet_step (fail))
        refine wpQuiet_nil ?_
        rintro _ ⟨nq,rfl⟩
        show Code.wpIn _ _ _ _ _ _ _
        gi_wp2
        exact⟨keeps_drew _ _,λ_ _=>rfl,Hs nq⟩
  case done=>
    rintro D ys W hD rfl hE hK
    have HX4':Hid (Bx W (w.heap.size+1) 210 #[.pointer none]):=(hE.1.block _ HX4.out.lt).trans HX4.out
    have HX5':Hid (Bx W (w.heap.size+1+1) 4 #[.bool false]):=(hE.1.block _ HX5.out.lt).trans HX5.out
    have f4:=HX4'.out.fr 0
    have f5:=HX5'.out.fr 0
    have x4:=HX4'.out.cell (i:=0) rfl
    have x5:=HX5'.out.cell (i:=0) rfl
    have HE:Hid (NotYet w1 W zs num ((zs.map Prod.fst).attach.map Subtype.val)):=hE
    clear hE
    gi_wp2
    have hDs:w1.heap.size<=D:=by
      have:=hB0.out.size
      omega
    have hSz:=HSz.out
    have hE:=HE.out
    have hg:Only W ((W.setCell ⟨w.heap.size+1,0,none⟩ (.pointer none)).setCell ⟨w.heap.size+1+1,0,none⟩ (.bool false)) (λk=>w.heap.size<=k/\k<w1.heap.size):=
      Only.set (Only.set (Only.refl W _) (.inl ⟨Nat.le_succ _,by show w.heap.size+1<_;omega⟩)) (.inl ⟨by show _<=w.heap.size+1+1;omega,by show w.heap.size+1+1<_;omega⟩)
    have h4:Bx ((W.setCell ⟨w.heap.size+1,0,none⟩ (.pointer none)).setCell ⟨w.heap.size+1+1,0,none⟩ (.bool false)) (w.heap.size+1) 210 #[.pointer none]:=Bx.other (Bx.set HX4'.out 0 (.pointer none)) (by omega) 0 _
    have h5:Bx ((W.setCell ⟨w.heap.size+1,0,none⟩ (.pointer none)).setCell ⟨w.heap.size+1+1,0,none⟩ (.bool false)) (w.heap.size+1+1) 4 #[.bool false]:=Bx.set (Bx.other HX5'.out (by omega) 0 _) 0 (.bool false)
    have hDW:D<W.heap.size:=(Array.getElem?_eq_some_iff.1 hK).1
    have hK2:=(hg.block D hDW λe=>by have:=e.2;omega).trans hK
    have hb:Below w.heap.size w ((W.setCell ⟨w.heap.size+1,0,none⟩ (.pointer none)).setCell ⟨w.heap.size+1+1,0,none⟩ (.bool false)):=by
      have hb:=HB1.out.trans (hE.1.mono HB1.out.size)
      exact⟨hg.os.trans hb.os,hg.tape.trans hb.tape,hg.output.trans hb.output,Nat.le_trans hb.size hg.size,λk hk=>(hg.block k (by have:=hb.size;omega) λe=>by have:=e.1;omega).trans (hb.block k hk)⟩
    generalize (W.setCell ⟨w.heap.size+1,0,none⟩ (.pointer none)).setCell ⟨w.heap.size+1+1,0,none⟩ (.bool false)=W2 at *
    refine⟨by simp,.inl ⟨_,_,rfl,run_takeDeferred hK2,?_⟩⟩
    have g4:Bx (W2.putObj D (.deferred none)) (w.heap.size+1) 210 #[.pointer none]:=bx_own h4 (grownBy_putObj' W2 D _) (B:=D) (λr e=>by cases e;omega) (by omega)
    have g5:Bx (W2.putObj D (.deferred none)) (w.heap.size+1+1) 4 #[.bool false]:=bx_own h5 (grownBy_putObj' W2 D _) (B:=D) (λr e=>by cases e;omega) (by omega)
    exact⟨_,tested_res g4 g5 _ rfl rfl,below_own hb (Nat.le_refl _) (grownBy_putObj' W2 D _) (B:=D) (λr e=>by cases e;omega) (by omega),.inr ⟨λz hz=>hE.2 z hz (by rw[List.attach_map_subtype_val];exact List.mem_map_of_mem hz),rfl⟩⟩
  case stop=>
    rintro D c pre W hD _ h hK
    obtain⟨rfl,z,hz,hzr,hb,h4,h5⟩:=h
    have hDs:w.heap.size+3<=D:=by
      have:=HSz.out
      have:=hB0.out.size
      omega
    gi_wp2
    refine⟨by simp,.inl ⟨_,_,rfl,run_takeDeferred hK,?_⟩⟩
    have g4:Bx (W.putObj D (.deferred none)) (w.heap.size+1) 210 #[ptr z.1]:=bx_own h4 (grownBy_putObj' W D _) (B:=D) (λr e=>by cases e;omega) (by omega)
    have g5:Bx (W.putObj D (.deferred none)) (w.heap.size+1+1) 4 #[.bool true]:=bx_own h5 (grownBy_putObj' W D _) (B:=D) (λr e=>by cases e;omega) (by omega)
    exact⟨_,tested_res g4 g5 _ rfl rfl,below_own hb (Nat.le_refl _) (grownBy_putObj' W D _) (B:=D) (λr e=>by cases e;omega) (by omega),.inl ⟨z,hz,hzr,rfl⟩⟩
theorem tTested {S:Nat->Prop}{yb mb n0:Nat}(num:Nat){c:Cfg}{s:Ts}{w:World}{q:List Pw}{sb:Nat}{qv ov:Value}{x:Xt}{tl:List Tp}{zs:List (Nat×Sm)}(h:YardZ w S yb mb n0 c s q sb qv ov x tl zs)(hl:zs.length<=8):
    Calls prog 118 #[ptr yb,.int .i64 num] w λe w'=>Below w.heap.size w w'/\((∃z∈zs,z.2.runs num=true/\e=.returned (.tuple #[ptr z.1,.bool true]))\/((∀z∈zs,z.2.runs num=false)/\e=.returned (.tuple #[.pointer none,.bool false]))):=by
  have:=tTestedI (num:Int) h hl
  simp only[Sm.runsI_nat] at this
  exact this
end
theorem info_tip:(prog.info? 110).map (λi=>(i.zero,i.size,i.bytes))=some (some (.agg #[.int .i64 0,.slice none 0 0]),2,32):=by kernel_rfl
theorem set7 (c:Cfg)(x:Xt)(b t:Nat)(qv:Value)(sb n:Nat)(ov:Value)(bm n':Nat):(yardCells c x b t qv sb n ov).setIfInBounds 7 (.map (some bm))=yardCells c {x with tip:=bm,n:=n'} b t qv sb n ov:=rfl
theorem set8 (c:Cfg)(x:Xt)(b t:Nat)(qv:Value)(sb n:Nat)(ov mv:Value):(yardCells c x b t qv sb n ov).setIfInBounds 8 mv=yardCells c {x with mv:=mv} b t qv sb n ov:=rfl
theorem YardZ.setTip {S:Nat->Prop}{yb mb n0:Nat}{c:Cfg}{s:Ts}{w:World}{q:List Pw}{sb:Nat}{qv ov:Value}{x:Xt}{tl:List Tp}{zs:List (Nat×Sm)}(h:YardZ w S yb mb n0 c s q sb qv ov x tl zs){bm n':Nat}{g:ByteArray->ByteArray}(hM:FilesMap w bm n' g)(hS:S bm)(hne:sb≠bm):
    YardZ (w.setCell ⟨yb,7,none⟩ (.map (some bm))) S yb mb n0 c {s with tip:=g} q sb qv ov {x with tip:=bm,n:=n'} tl zs/\OnlyT w (w.setCell ⟨yb,7,none⟩ (.map (some bm))) S [201]:=by
  have O:OnlyT w (w.setCell ⟨yb,7,none⟩ (.map (some bm))) S [201]:=OnlyT.mk ((Only.refl w λk=>k=yb).set (.inl rfl)) λk hk e=>by
    subst e
    exact⟨h.is.fy,201,by simp,h.is.box.ty⟩
  have hi:=λ(k:Nat) (hk:S k)=>hk
  have hB:=h.is.box.set 7 (.map (some bm))
  rw[set7 (n':=n')] at hB
  exact⟨YardZ.mk' ⟨h.rest.nm,Nat.lt_of_lt_of_le h.rest.ml O.size,.inr hS,O.map hM (by decide),h.rest.main.keptT O.k hi (by decide) (by decide),h.rest.train.keptT O.k hi (Nat.le_refl _) (by decide) (by decide) (by unfold NoSeg;decide)⟩ h.is.qs hB (h.is.que.keptT O.k hi (by decide) (by decide)) (O.sub h.is.sub (by decide)) (h.is.outs.keptT O.k hi (by decide)) h.is.fy h.is.fs hne,O⟩
theorem YardZ.setMain {S:Nat->Prop}{yb mb n0:Nat}{c:Cfg}{s:Ts}{w w':World}{q:List Pw}{sb:Nat}{qv ov:Value}{x:Xt}{tl:List Tp}{zs:List (Nat×Sm)}(h:YardZ w S yb mb n0 c s q sb qv ov x tl zs){mv iv:Value}{by_:Nat}{ids:List Nat}(hO:OnlyT w w' S [201,110])(hB:Bx w' yb 201 (yardCells c {x with mv:=mv} s.begun s.now qv sb s.outs.length ov))(hm:Sl w' 110 2 mv (tl.length+1) (tl.flatMap cTp++[.int .i64 by_,iv]))(hmv:mv.ownBlock=x.mv.ownBlock\/∃g,mv.ownBlock=some g/\w.heap.size<=g)(hiv:Sl w' 3 1 iv ids.length (ids.map cI))(hin:∀g,iv.ownBlock=some g->w.heap.size<=g):
    YardZ w' (Plus S w) yb mb n0 c {s with main:=s.main++[(by_,ids)]} q sb qv ov {x with mv:=mv} (tl++[((by_,ids),iv)]) zs:=by
  have hp:=Plus.old (S:=S) w
  refine YardZ.mk' ⟨h.is.np,Nat.lt_of_lt_of_le h.rest.ml hO.size,h.rest.tip.imp (λe=>e) .inl,hO.map h.rest.map (by decide),⟨?_,?_,?_,λy hy=>?_⟩,h.rest.train.keptT hO.k hp (Nat.le_refl _) (by decide) (by decide) (by unfold NoSeg;decide)⟩ h.is.qs hB (h.is.que.keptT hO.k hp (by decide) (by decide)) (hO.sub h.is.sub (by decide)) (h.is.outs.keptT hO.k hp (by decide)) (.inl h.is.fy) (.inl h.is.fs) h.is.nt
  · rw[List.map_append,h.rest.main.fst];rfl
  · rw[List.length_append,List.flatMap_append];simpa[cTp] using hm
  · intro g hg
    rcases hmv with e|⟨g',e,hg'⟩
    · rw[show ({x with mv:=mv}:Xt).mv=mv from rfl,e] at hg;exact .inl (h.rest.main.own g hg)
    · rw[show ({x with mv:=mv}:Xt).mv=mv from rfl,e] at hg;cases hg;exact .inr hg'
  · rcases List.mem_append.1 hy with hy|hy
    · exact⟨hO.sl (h.rest.main.ids y hy).1 (by decide),(h.rest.main.ids y hy).2.mono hp⟩
    · obtain rfl:=List.mem_singleton.1 hy
      exact⟨hiv,λg hg=>.inr (hin g hg)⟩
def lnd (l:List Cg):List (Nat×Nat):=l.map λy=>(y.1,1)
theorem tLand {S:Nat->Prop}{yb mb n0 p bm n':Nat}{c:Cfg}{s:Ts}{f:Sm}{w:World}{q:List Pw}{sb:Nat}{qv ov:Value}{x:Xt}{tl:List Tp}{zs:List (Nat×Sm)}{g':ByteArray->ByteArray}(h:YardZ w S yb mb n0 c s q sb qv ov x tl ((p,f)::zs))(hM:FilesMap w bm n' g')(hS:S bm)(hne:sb≠bm)(h8:f.l.length<=8)(ho:s.outs.length<1048575000)(ha:s.acked<=s.outs.length)(hm:s.main.length<1048575000):
    Calls prog 212 #[ptr yb,ptr p,.map (some bm)] w λe w'=>e=.returned (.tuple #[])/\(∃ov' mv' tv' tl',YardZ w' (Plus S w) yb mb n0 c {s with tip:=g',outs:=s.outs++lnd f.l,main:=s.main++[(f.by_,f.l.map Prod.fst)],segs:=zs.map Prod.snd} q sb qv ov' ⟨bm,mv',tv',n'⟩ tl' zs)/\OnlyT w w' S [201,99,110,210]:=by
  obtain⟨i0,hi0,hz0,hz1,hz2⟩:=info_parts info_tip
  obtain⟨cv,jv,cl,hseg⟩:=h.rest.train.segs (p,f) (by simp)
  have hcl:cl.length=f.l.length:=by rw[<-hseg.chs.fst,List.length_map]
  obtain⟨ca,ccap,rfl⟩:=hseg.chs.row.form
  have hT:=h.setTip hM hS hne
  have HY0:Hid (YardZ (w.setCell ⟨yb,7,none⟩ (.map (some bm))) S yb mb n0 c {s with tip:=g'} q sb qv ov {x with tip:=bm,n:=n'} tl ((p,f)::zs)):=hT.1
  have HO0:Hid (OnlyT w (w.setCell ⟨yb,7,none⟩ (.map (some bm))) S [201]):=hT.2
  have HSeg0:Hid (SegIs (w.setCell ⟨yb,7,none⟩ (.map (some bm))) S (s.top n0) p f (.slice ca cl.length ccap) jv cl):=⟨hT.2.bx hseg.box (by decide),hseg.chs.keptT hT.2.k (λ_ h=>h) (by decide) (by decide),hseg.job.keptT hT.2.k (λ_ h=>h) (Nat.le_refl _) (by decide) (by decide),hseg.own⟩
  have y7:=h.is.box.c 7 (.map (some x.tip))
  have f7:=h.is.box.fr 7
  have p0:(w.setCell ⟨yb,7,none⟩ (.map (some bm))).cell? ⟨p,0,none⟩=some (.slice ca cl.length ccap):=HSeg0.out.box.cell (i:=0) rfl
  have HMB:Hid (¬Plus S w mb):=h.is.np
  have HCL:Hid (cl.length=f.l.length):=hcl
  have hsz0:(w.setCell ⟨yb,7,none⟩ (.map (some bm))).heap.size=w.heap.size:=by simp
  rw[<-hcl] at h8
  clear h hM hseg hT hcl
  unfold ptr
  go_enter func212,ntmps212
  go_upto_region 1 with fail
  generalize w.setCell ⟨yb,7,none⟩ (.map (some bm))=w0 at *
  clear y7 f7
  go_wp2_with fail
  clear p0
  have HZ0:Hid (w0.heap.size=w.heap.size):=hsz0
  clear hsz0
  go_loopw [17] (λiv wr=>∃k:Nat,k<=cl.length/\iv=.int .i64 k/\Hid (∃ov',YardZ wr (Plus S w) yb mb n0 c {s with tip:=g',outs:=s.outs++lnd (f.l.take k)} q sb qv ov' {x with tip:=bm,n:=n'} tl ((p,f)::zs))/\Hid (OnlyT w0 wr S [201,99])) (λi _=>cl.length-(intOf i).toNat)
  case atStart=>exact⟨0,Nat.zero_le _,rfl,⟨ov,by simpa[lnd] using HY0.out.mono (Plus.old w) HMB.out⟩,OnlyT.refl _ _ _⟩
  case round=>
    obtain⟨k,hk,rfl,hY,hO⟩:=hrel
    by_cases hlk:k<cl.length
    · have hch:=HSeg0.out.chs.keptT hO.out.k (Plus.old w) (by decide) (by decide)
      obtain⟨g,off,cap,hv,_⟩:=hch.row.addr (by omega)
      cases hv
      obtain⟨ea,en,ec,he⟩:=hch.sl _ (List.getElem_mem hlk)
      have hfl:k<f.l.length:=by rw[<-HCL.out];exact hlk
      have hfst:cl[k].1=f.l[k]:=by
        have:=hch.fst
        simp[<-this]
      have d0:wr.cell? ⟨g,off+k*2,none⟩=some (.int .i64 cl[k].1.1):=hch.row.cell (j:=k*2) (by rw[show k*2=k*2+0 from rfl,flat_get cC 2 (λ_=>rfl) cl k 0 hlk (by omega)];rfl)
      have d1:wr.cell? ⟨g,off+k*2+1,none⟩=some (.slice ea en ec):=by
        have:=hch.row.cell (j:=k*2+1) (u:=.slice ea en ec) (by rw[flat_get cC 2 (λ_=>rfl) cl k 1 hlk (by omega),<-he];rfl)
        rwa [<-Nat.add_assoc] at this
      obtain⟨ov1,hY1⟩:=hY.out
      have HL:Hid ((s.outs++lnd (f.l.take k))++[(cl[k].1.1,1)]=s.outs++lnd (f.l.take (k+1))):=by
        show _=_
        rw[List.take_succ_eq_append_getElem hfl,lnd,lnd,List.map_append,List.append_assoc,hfst];rfl
      have hlen:(s.outs++lnd (f.l.take k)).length<1048576000:=by
        simp[lnd];omega
      have hE:=tEndZ cl[k].1.1 1 (hY1.later (below_new wr (.cells #[.int .i64 cl[k].1.1,.slice ea en ec] 273))) hlen (by simp only[List.length_append];omega)
      have hwz:=Nat.le_trans (Nat.le_of_eq HZ0.out.symm) hO.out.size
      generalize cl[k].1.1=x0 at *
      clear hch he hfst hY1
      go_wp2_with fail
      go_fit hE
      rintro e w3 ⟨rfl,⟨ov3,hY3⟩,hO3⟩
      have HY3:Hid (YardZ w3 (Plus S w) yb mb n0 c {s with tip:=g',outs:=s.outs++lnd (f.l.take (k+1))} q sb qv ov3 {x with tip:=bm,n:=n'} tl ((p,f)::zs)):=by
        have:=hY3.mono (Plus.two (Nat.le_trans hwz (below_new wr (.cells #[.int .i64 x0,.slice ea en ec] 273)).size)) HMB.out
        rwa [<-HL.out]
      have HO3:Hid (OnlyT w0 w3 S [201,99]):=OnlyT.mono (OnlyT.trans hO.out (OnlyT.from_new hO3) λj hj=>hj.imp (λh=>h) (λh=>by rw[HZ0.out];exact h)) (λ_ h=>h) (by decide)
      clear hE hY3 hO3
      go_wp2_with fail
      exact⟨⟨k+1,hlk,by go_num,⟨ov3,HY3.out⟩,HO3.out⟩,by simp[intOf];omega⟩
    · obtain rfl:k=cl.length:=by omega
      have hY':=hY.out
      rw[show f.l.take cl.length=f.l by rw[HCL.out,List.take_length]] at hY'
      obtain⟨ov1,hY1⟩:=hY'
      have hPz:=hO.out.bx HSeg0.out.box (by decide)
      have hch:=HSeg0.out.chs.keptT hO.out.k (Plus.old w) (by decide) (by decide)
      have hC:=segIds p _ _ cl wr.drew hPz rfl hch.row hch.sl h8
      obtain⟨ma,mcap,hmv⟩:=hY1.rest.main.row.form
      have hmv':x.mv=.slice ma tl.length mcap:=hmv
      have hml:tl.length<1048575000:=by
        have:=hY1.rest.main.fst
        have e:(tl.map Prod.fst).length=s.main.length:=by rw[this]
        rw[List.length_map] at e
        omega
      have m8:wr.cell? ⟨yb,8,none⟩=some (.slice ma tl.length mcap):=by
        have:=hY1.is.box.c 8 x.mv
        rw[this,hmv']
      have p2:wr.cell? ⟨p,2,none⟩=some (.int .i64 f.by_):=hPz.cell (i:=2) rfl
      have HMR:Hid (Sl wr 110 2 (.slice ma tl.length mcap) tl.length (tl.flatMap cTp)):=by
        have:=hY1.rest.main.row
        rw[show ({x with tip:=bm,n:=n'}:Xt).mv=.slice ma tl.length mcap from hmv'] at this
        exact this
      have HBY:Hid (Bx wr yb 201 (yardCells c {x with tip:=bm,n:=n'} s.begun s.now qv sb (s.outs++lnd f.l).length ov1)):=hY1.is.box
      have hwz:=Nat.le_trans (Nat.le_of_eq HZ0.out.symm) hO.out.size
      have hids:(cl.map λy=>cI y.1.1)=(f.l.map Prod.fst).map cI:=by
        rw[<-hch.fst,List.map_map,List.map_map];rfl
      have HFin:Hid (∀w7 iv W8 w8 v8,Below wr.heap.size wr w7->w7.ownsRow wr.heap.size 3 1 iv cl.length (cl.map λy=>cI y.1.1)->Below w7.heap.size w7 W8->Sl w8 110 2 v8 (tl.length+1) (tl.flatMap cTp++[.int .i64 f.by_,iv])->W8.grownBy w8 (Value.slice ma tl.length mcap).ownBlock->(v8.ownBlock=(Value.slice ma tl.length mcap).ownBlock\/∃g,v8.ownBlock=some g/\W8.heap.size<=g)->∃mv' tl',YardZ (w8.setCell ⟨yb,8,none⟩ v8) (Plus S w) yb mb n0 c {s with tip:=g',outs:=s.outs++lnd f.l,main:=s.main++[(f.by_,f.l.map Prod.fst)]} q sb qv ov1 ⟨bm,mv',x.tv,n'⟩ tl' ((p,f)::zs)/\OnlyT wr (w8.setCell ⟨yb,8,none⟩ v8) (Plus S w) [201,110]):=λw7 iv W8 w8 v8 hb7 hr7 hB8' hS8 hG8 hL8=>by
        have hbW:Below wr.heap.size wr W8:=below_then hb7 hB8'
        have hmne:(Value.slice ma tl.length mcap).ownBlock≠some yb:=HMR.out.ne HBY.out (by decide)
        have hB8:Bx w8 yb 201 (yardCells c {x with tip:=bm,n:=n'} s.begun s.now qv sb (s.outs++lnd f.l).length ov1):=(HBY.out.later hbW).grown hG8 hmne.symm
        have hvne:v8.ownBlock≠some yb:=by
          rcases hL8 with e|⟨g,e,hg⟩
          · rw[e];exact hmne
          · rw[e];intro e';cases e'
            have:=HBY.out.lt
            have:=hbW.size
            omega
        have O8:OnlyT wr (w8.setCell ⟨yb,8,none⟩ v8) (Plus S w) [201,110]:=OnlyT.mk (E:=λk=>k=yb\/(Value.slice ma tl.length mcap).ownBlock=some k) (((Only.of_below hbW).trans (Only.of_grown hG8 (S:=λk=>(Value.slice ma tl.length mcap).ownBlock=some k) λk e=>e) λk e=>.inl (.inr e)).set (.inl (.inl rfl))) λk _ e=>by
          rcases e with rfl|e
          · exact⟨hY1.is.fy,201,by simp,HBY.out.ty⟩
          · exact⟨hY1.rest.main.own k (by rw[show ({x with tip:=bm,n:=n'}:Xt).mv=.slice ma tl.length mcap from hmv'];exact e),110,by simp,HMR.out.ty e⟩
        have hB9:=hB8.set 8 v8
        rw[set8] at hB9
        refine⟨v8,_,YardZ.mono (hY1.setMain (by_:=f.by_) (ids:=f.l.map Prod.fst) (iv:=iv) O8 hB9 ?_ ?_ ?_ ?_) (Plus.two hwz) HMB.out,O8⟩
        · exact hS8.grown (grown_set _ _ _ _) (λg hg e=>hvne (by rw[hg];exact e.symm))
        · rcases hL8 with e|⟨g,e,hg⟩
          · exact .inl (by rw[e,show ({x with tip:=bm,n:=n'}:Xt).mv=.slice ma tl.length mcap from hmv'])
          · exact .inr ⟨g,e,Nat.le_trans hbW.size hg⟩
        · have h1:=Sl.of_row hr7
          rw[hids] at h1
          rw[show (f.l.map Prod.fst).length=cl.length by rw[List.length_map,HCL.out]]
          have hnb:∀g,iv.ownBlock=some g->wr.heap.size<=g:=λg hg=>(World.ownsRow.lt hr7 g hg).1
          refine((h1.later hB8').grown hG8 λg hg e=>?_).grown (grown_set _ _ _ _) λg hg e=>?_
          · have:=HMR.out.lt e
            have:=hnb g hg
            omega
          · have:=hnb g hg
            have:=HBY.out.lt
            cases e
            omega
        · exact λg hg=>(World.ownsRow.lt hr7 g hg).1
      have q1:Hid (tl.length+1<=maxLen):=by show _<=_;unfold maxLen;omega
      have q2:Hid ((tl.length+1)*32<=140737488355328):=Nat.le_trans (Nat.mul_le_mul_right 32 (show tl.length+1<=1048576000 by omega)) (by decide)
      have f8:=λ(w8:World) (h:Bx w8 yb 201 (yardCells c {x with tip:=bm,n:=n'} s.begun s.now qv sb (s.outs++lnd f.l).length ov1))=>h.fr 8
      have hmne:Hid ((Value.slice ma tl.length mcap).ownBlock≠some yb):=HMR.out.ne HBY.out (by decide)
      clear hY hY1 hPz hch hmv hmv' hids f8 HY0
      go_upto_region 6 with fail
      go_cut [] from 42 (λwz=>∃mv' tl',YardZ wz (Plus S w) yb mb n0 c {s with tip:=g',outs:=s.outs++lnd f.l,main:=s.main++[(f.by_,f.l.map Prod.fst)]} q sb qv ov1 ⟨bm,mv',x.tv,n'⟩ tl' ((p,f)::zs)/\OnlyT wr wz (Plus S w) [201,110])
      case first=>
        go_region_law ((first|(refine step_call rfl 149 [_] _ rfl [ptr p] (by simp[Act.eval,Act.put,ptr]) (enters_of func149 (by kernel_rfl) rfl) hC ?_;rintro e w7 ⟨⟨iv,rfl,hr7⟩,hb7⟩;refine⟨_,rfl,?_⟩;obtain⟨ia,icap,rfl⟩:=row_form hr7;have m87:=jcell_after (show Below wr.heap.size wr w7 from ⟨hb7.os,hb7.tape,hb7.output,hb7.size,hb7.block⟩) m8;have p27:=jcell_after (show Below wr.heap.size wr w7 from ⟨hb7.os,hb7.tape,hb7.output,hb7.size,hb7.block⟩) p2;have m87a:∀o,(w7.alloc o).cell? ⟨yb,8,none⟩=some (.slice ma tl.length mcap):=(λo=>jcell_after (below_new w7 o) m87);have HB7:Hid (Below wr.heap.size wr w7):=⟨hb7.os,hb7.tape,hb7.output,hb7.size,hb7.block⟩;have HR7:Hid (w7.ownsRow wr.heap.size 3 1 (.slice ia cl.length icap) cl.length (cl.map λy=>cI y.1.1)):=hr7;clear hr7 hb7)|(refine step_append_sl rfl _ _ 106 rfl _ i0 _ 2 32 underlying106 hi0 hz0 hz1 hz2 rfl (by decide) (.slice ma tl.length mcap) _ _ (by simp[Act.eval]) (Sl.mk (HMR.out.later HB7.out) _) ⟨w7.heap.size,0,none⟩ 1 1 [.int .i64 f.by_,.slice ia cl.length icap] (by simp[Act.eval]) rfl (cells_new w7 _ _) (by simp[Value.oneCell']) q1.out q2.out ?_;intro v8 w8 hS8 hG8 hL8;obtain⟨a8,c8,rfl⟩:=hS8.form;have hB8:Bx w8 yb 201 (yardCells c {x with tip:=bm,n:=n'} s.begun s.now qv sb (s.outs++lnd f.l).length ov1):=((HBY.out.later HB7.out).mk _).grown hG8 hmne.out.symm;have m88:=hB8.c 8 x.mv;have f88:=hB8.fr 8;have HX:=HFin.out w7 _ _ w8 _ HB7.out HR7.out (below_new _ _) hS8 hG8 hL8;have HXX:Hid _:=HX;clear HX hS8 hG8 hL8 hB8)))
        all_goals
          go_wp2_with fail
          go_meet
          case rel=>exact HXX.out
      case rest=>
        obtain⟨mv',tl',hY9,hO9⟩:=hcut
        rename World=>wz
        have hD:=tDropZ hY9
        have HO9:Hid (OnlyT w wz S [201,99,110]):=OnlyT.mono (OnlyT.trans (OnlyT.trans HO0.out hO.out (Plus.old w)) hO9 λk hk=>hk) (λ_ h=>h) (by decide)
        clear hY9 hO9 hC m8 p2 HFin HMR HBY
        go_wp2_with fail
        go_fit hD
        rintro e w10 ⟨rfl,⟨tv',hY10⟩,hO10⟩
        have HY10:Hid (YardZ w10 (Plus S w) yb mb n0 c {s with tip:=g',outs:=s.outs++lnd f.l,main:=s.main++[(f.by_,f.l.map Prod.fst)],segs:=zs.map Prod.snd} q sb qv ov1 ⟨bm,mv',tv',n'⟩ tl' zs):=hY10
        have HO10:Hid (OnlyT w w10 S [201,99,110,210]):=OnlyT.mono (OnlyT.trans HO9.out hO10 λk hk=>hk) (λ_ h=>h) (by decide)
        clear hY10 hO10 hD
        go_wp2_with fail
        go_end0
        exact⟨rfl,⟨ov1,mv',tv',tl',HY10.out⟩,HO10.out⟩
end Go.Proofs.YtgamgomepdfgdaaGreat
