import Derived.Test.YtgamgomepdfgdaaGreatEM10
import Derived.Test.YtgamgomepdfgdaaGreatEM12
import Derived.Test.YtgamgomepdfgdaaGreatEM11
set_option maxRecDepth 100000
set_option maxHeartbeats 8000000
namespace Go.Proofs.YtgamgomepdfgdaaGreat
open Go.RowKit Go.Proofs.Tryz
theorem SmOk.more {c:Cfg}{b b' n:Nat}{x:Sm}(h:SmOk c b n x)(hb:b<=b'):SmOk c b' n x:=
  ⟨h.ne,h.eds,h.fails,Nat.le_trans h.by_ hb,λj hj=>by
    obtain⟨h1,h2,h3,h4,h5⟩:=h.job j hj
    exact⟨h1,h2,h3,Nat.le_trans h4 hb,h5⟩⟩
structure Begun (c:Cfg)(now:Nat)(l l':List Sm)(b b' r:Nat):Prop where
  same:l'.map Sm.l=l.map Sm.l
  le:b<=b'
  top:b'<=b+r
  ok:∀x∈l',SmOk c b' now x
  jobs:l'.Pairwise JobsNe
  old:∀x∈l',∀j,x.job=some j->(∃y∈l,∃k,y.job=some k/\k.num=j.num)\/b<j.num
theorem begins_ok {c:Cfg}{now:Nat}:∀(r:Nat) (l:List Sm) (g:ByteArray->ByteArray) (b:Nat),(∀x∈l,SmOk c b now x)->l.Pairwise JobsNe->Begun c now l (begins c now r l g b).1 b (begins c now r l g b).2 r
  |0,l,g,b,h,hj=>by
    rw[begins]
    exact⟨rfl,Nat.le_refl _,Nat.le_refl _,h,hj,λx hx j e=>.inl ⟨x,hx,j,e,rfl⟩⟩
  |r+1,[],g,b,h,hj=>by
    rw[begins]
    exact⟨rfl,Nat.le_refl _,by omega,h,hj,λx hx j e=>.inl ⟨x,hx,j,e,rfl⟩⟩
  |r+1,x::l,g,b,h,hj=>by
    have hx:=h x (by simp)
    have hl:∀y∈l,SmOk c b now y:=λy hy=>h y (by simp[hy])
    have hjl:=List.pairwise_cons.1 hj
    rw[begins]
    split
    · exact⟨rfl,Nat.le_refl _,by omega,h,hj,λx hx j e=>.inl ⟨x,hx,j,e,rfl⟩⟩
    rename_i hno
    split
    · rename_i hbe
      have R:=begins_ok r l (makes g x.l).1 (b+1) (λy hy=>(hl y hy).more (by omega)) hjl.2
      have hle:=R.le
      refine⟨by simp only[List.map_cons];rw[R.same],by have:=R.le;simp only;omega,by have:=R.top;simp only;omega,λy hy=>?_,?_,λy hy j e=>?_⟩
      · rcases List.mem_cons.1 hy with rfl|hy
        · have h1:x.fails<=c.retries:=by omega
          refine⟨hx.ne,hx.eds,hx.fails,Nat.le_trans hx.by_ (by omega),λj e=>?_⟩
          cases e
          exact⟨h1,hbe.1,by simp,hle,Nat.le_refl _⟩
        · exact R.ok y hy
      · rw[List.pairwise_cons]
        refine⟨λy hy j k ej ek=>?_,R.jobs⟩
        cases ej
        show b+1≠k.num
        rcases R.old y hy k ek with ⟨z,hz,i,ei,hi⟩|hlt
        · have:=((hl z hz).job i ei).2.2.2.1
          omega
        · omega
      · rcases List.mem_cons.1 hy with rfl|hy
        · cases e
          exact .inr (Nat.lt_succ_self b)
        · rcases R.old y hy j e with ⟨z,hz,i,ei,hi⟩|hlt
          · exact .inl ⟨z,by simp[hz],i,ei,hi⟩
          · exact .inr (by omega)
    · have R:=begins_ok r l (makes g x.l).1 b hl hjl.2
      refine⟨by simp only[List.map_cons];rw[R.same],R.le,by have:=R.top;simp only;omega,λy hy=>?_,?_,λy hy j e=>?_⟩
      · rcases List.mem_cons.1 hy with rfl|hy
        · exact hx.more R.le
        · exact R.ok y hy
      · rw[List.pairwise_cons]
        refine⟨λy hy j k ej ek=>?_,R.jobs⟩
        rcases R.old y hy k ek with ⟨z,hz,i,ei,hi⟩|hlt
        · have:=hjl.1 z hz j i ej ei
          omega
        · have:=(hx.job j ej).2.2.2.1
          omega
      · rcases List.mem_cons.1 hy with rfl|hy
        · exact .inl ⟨y,by simp,j,e,rfl⟩
        · rcases R.old y hy j e with ⟨z,hz,i,ei,hi⟩|hlt
          · exact .inl ⟨z,by simp[hz],i,ei,hi⟩
          · exact .inr hlt
theorem trainLen_map {l l':List Sm}(h:l'.map Sm.l=l.map Sm.l):trainLen l'=trainLen l:=by
  have e:∀k:List Sm,trainLen k=((k.map Sm.l).map List.length).sum:=λk=>by simp[trainLen,Function.comp_def]
  rw[e,e,h]
theorem Ts.Inv.begin {c:Cfg}{s:Ts}(h:s.Inv c):(s.begin c).Inv c:=by
  have R:=begins_ok (c:=c) (now:=s.now) c.window s.segs s.tip s.begun h.sm h.jobs
  refine⟨h.len,h.ord,h.top,h.nd,h.inn,h.ack,?_,h.main,?_,R.ok,R.jobs⟩
  · show s.outs.length+s.queue.length+trainLen (begins c s.now c.window s.segs s.tip s.begun).1=s.ids.length
    rw[trainLen_map R.same];exact h.cnt
  · show trainLen (begins c s.now c.window s.segs s.tip s.begun).1<=8
    rw[trainLen_map R.same];exact h.tr
theorem Ts.Inv.each {c:Cfg}{s:Ts}(h:s.Inv c)(n:Nat)(f:Sm->Sm)(hl:∀x,(f x).l=x.l)(hj:∀x∈s.segs,(f x).job=none\/(f x).job=x.job)(hok:∀x∈s.segs,SmOk c s.begun n (f x)):({s with now:=n,segs:=s.segs.map f}:Ts).Inv c:=by
  have e:(s.segs.map f).map Sm.l=s.segs.map Sm.l:=by rw[List.map_map];exact List.map_congr_left λx _=>hl x
  refine⟨h.len,h.ord,h.top,h.nd,h.inn,h.ack,?_,h.main,?_,λx hx=>?_,?_⟩
  · show s.outs.length+s.queue.length+trainLen (s.segs.map f)=s.ids.length
    rw[trainLen_map e];exact h.cnt
  · show trainLen (s.segs.map f)<=8
    rw[trainLen_map e];exact h.tr
  · obtain⟨y,hy,rfl⟩:=List.mem_map.1 hx
    exact hok y hy
  · show (s.segs.map f).Pairwise JobsNe
    rw[List.pairwise_map]
    refine List.Pairwise.imp_of_mem (fun {a b} ha hb hab=>?_) h.jobs
    intro j k ej ek
    rcases hj a ha with e1|e1
    · rw[e1] at ej;cases ej
    rcases hj b hb with e2|e2
    · rw[e2] at ek;cases ek
    exact hab j k (e1▸ej) (e2▸ek)
theorem Sm.ends_l (x:Sm)(p:Bool)(n:Nat):(x.ends p n).l=x.l:=by unfold Sm.ends;split<;>rfl
theorem Sm.ends_job (x:Sm)(p:Bool)(n:Nat):(x.ends p n).job=none:=by unfold Sm.ends;split<;>rfl
theorem Sm.runs_iff (x:Sm)(n:Nat):x.runs n=true↔∃j,x.job=some j/\j.num=n:=by
  unfold Sm.runs
  split
  · rename_i j e
    simp[e]
  · rename_i e
    simp[e]
theorem Sm.due_iff (x:Sm)(n:Nat):x.due n=true↔∃j,x.job=some j/\j.til<=n:=by
  unfold Sm.due
  split
  · rename_i j e
    simp[e]
  · rename_i e
    simp[e]
theorem SmOk.ends {c:Cfg}{b n n':Nat}{x:Sm}{j:Jb}(h:SmOk c b n x)(hj:x.job=some j)(p:Bool)(k:Nat)(hk:p=true->k<=b):SmOk c b n' (x.ends p k):=by
  obtain⟨h1,h2,h3,h4,h5⟩:=h.job j hj
  unfold Sm.ends
  split
  · rename_i hp
    exact⟨h.ne,h.eds,h.fails,hk hp,λj hj=>by cases hj⟩
  · exact⟨h.ne,h.eds,Nat.succ_le_succ h1,h.by_,λj hj=>by cases hj⟩
theorem SmOk.later {c:Cfg}{b n n':Nat}{x:Sm}(h:SmOk c b n x)(hn:n<=n'):SmOk c b n' x:=
  ⟨h.ne,h.eds,h.fails,h.by_,λj hj=>by
    obtain⟨h1,h2,h3,h4,h5⟩:=h.job j hj
    exact⟨h1,h2,h3,h4,by omega⟩⟩
theorem Ts.Inv.answer {c:Cfg}{s:Ts}(h:s.Inv c)(n:Nat)(p:Bool):(s.answer n p).Inv c:=by
  refine h.each s.now (λx=>if x.runs n then x.ends p n else x) (λx=>?_) (λx hx=>?_) λx hx=>?_
  · split
    · exact Sm.ends_l ..
    · rfl
  · split
    · exact .inl (Sm.ends_job ..)
    · exact .inr rfl
  · split
    · rename_i hr
      obtain⟨j,ej,hn⟩:=(Sm.runs_iff _ _).1 hr
      exact(h.sm x hx).ends ej p n λ_=>by have:=((h.sm x hx).job j ej).2.2.2.1;omega
    · exact h.sm x hx
theorem Ts.Inv.tick {c:Cfg}{s:Ts}(h:s.Inv c)(n:Nat):(s.tick n).Inv c:=by
  refine h.each (s.now+n) (λx=>if x.due (s.now+n) then x.ends false 0 else x) (λx=>?_) (λx hx=>?_) λx hx=>?_
  · split
    · exact Sm.ends_l ..
    · rfl
  · split
    · exact .inl (Sm.ends_job ..)
    · exact .inr rfl
  · split
    · rename_i hr
      obtain⟨j,ej,hn⟩:=(Sm.due_iff _ _).1 hr
      exact(h.sm x hx).ends ej false 0 λe=>by cases e
    · exact(h.sm x hx).later (by omega)
theorem Ts.Inv.lose {c:Cfg}{s:Ts}(h:s.Inv c):s.lose.Inv c:=
  h.each s.now (λx=>{x with job:=none}) (λx=>rfl) (λx hx=>.inl rfl) λx hx=>by
    have:=h.sm x hx
    exact⟨this.ne,this.eds,this.fails,this.by_,λj hj=>by cases hj⟩
theorem cancel_len {l:List Ch}(h:(l.map Ch.id).Nodup){n:Nat}(hx:∃x∈l,x.id=n):(l.filter λx=>x.id !=n).length+1=l.length:=by
  induction l with
  |nil=>obtain⟨x,hx,_⟩:=hx;simp at hx
  |cons y l ih=>
    rw[List.map_cons,List.nodup_cons] at h
    by_cases hy:y.id=n
    · have:(l.filter λx=>x.id !=n)=l:=List.filter_eq_self.2 λx hx=>by
        have:x.id≠n:=λe=>h.1 (by rw[hy,<-e];exact List.mem_map_of_mem hx)
        simpa using this
      rw[List.filter_cons]
      simp[hy,this]
    · obtain⟨x,hx,e⟩:=hx
      rcases List.mem_cons.1 hx with rfl|hx
      · exact absurd e hy
      have:=ih h.2 ⟨x,hx,e⟩
      rw[List.filter_cons]
      simp[hy,this]
theorem Ts.Inv.does {c:Cfg}{s:Ts}{r:Rc}(h:s.Inv c)(hc:c.Ok)(hr:s.Can c r):(s.does c r).Inv c:=by
  unfold Ts.does
  split
  · rename_i hk
    obtain⟨h1,h2,h3,h4,h5⟩:=hr.sub hk
    have hcnt:=h.cnt
    refine⟨by simp;omega,?_,λx hx=>?_,?_,λx hx=>?_,h.ack,?_,h.main,h.tr,h.sm,h.jobs⟩
    · show (s.queue++_).Pairwise _
      rw[List.pairwise_append]
      refine⟨h.ord,by simp,λx hx y hy=>?_⟩
      obtain rfl:=List.mem_singleton.1 hy
      exact(h.top x hx).1
    · simp only[List.length_append,List.length_singleton]
      rcases List.mem_append.1 hx with hx|hx
      · obtain⟨t1,t2,t3,t4⟩:=h.top x hx
        exact⟨by omega,t2,by omega,t4⟩
      · obtain rfl:=List.mem_singleton.1 hx
        exact⟨by simp,h4,by simp only;omega,h1,h5⟩
    · simp only[List.map_append,List.map_cons,List.map_nil]
      rw[List.nodup_append]
      refine⟨h.nd,by simp,λa ha b hb=>?_⟩
      obtain rfl:=List.mem_singleton.1 hb
      obtain⟨x,hx,rfl⟩:=List.mem_map.1 ha
      exact λe=>h2 (e▸h.inn x hx)
    · simp only[List.mem_append,List.mem_singleton]
      rcases List.mem_append.1 hx with hx|hx
      · exact .inl (h.inn x hx)
      · obtain rfl:=List.mem_singleton.1 hx
        exact .inr rfl
    · simp only[List.length_append,List.length_singleton]
      omega
  split
  · rename_i hk
    have hlen:=cancel_len h.nd (hr.cancel hk)
    have hcnt:=h.cnt
    refine⟨by have:=h.len;simp only;omega,h.ord.filter _,λx hx=>?_,List.Sublist.nodup (List.Sublist.map Ch.id (List.filter_sublist ..)) h.nd,λx hx=>h.inn x (List.mem_filter.1 hx).1,?_,?_,?_,h.tr,h.sm,h.jobs⟩
    · obtain⟨t1,t2,t3,t4⟩:=h.top x (List.mem_filter.1 hx).1
      exact⟨t1,t2,by simp only;omega,t4⟩
    · simp only[List.length_append,List.length_singleton];have:=h.ack;omega
    · simp only[List.length_append,List.length_singleton];omega
    · simp only[List.length_append,List.length_singleton];have:=h.main;omega
  split
  · exact(h.run hc _).begin
  split
  · exact h.answer _ _
  split
  · exact h.tick _
  split
  · rename_i hk
    exact⟨h.len,h.ord,h.top,h.nd,h.inn,hr.ack hk,h.cnt,h.main,h.tr,h.sm,h.jobs⟩
  · exact h.lose
def FitsT (c:Cfg)(g:ByteArray->ByteArray)(rs:List Rc):Prop:=∀k (hk:k<rs.length),(Ts.all c g (rs.take k)).Can c rs[k]
theorem FitsT.nil {c:Cfg}{g:ByteArray->ByteArray}:FitsT c g []:=λk hk=>by simp at hk
theorem FitsT.snoc {c:Cfg}{g:ByteArray->ByteArray}{rs:List Rc}{r:Rc}(h:FitsT c g rs)(hr:(Ts.all c g rs).Can c r):FitsT c g (rs++[r]):=λk hk=>by
  by_cases h1:k<rs.length
  · rw[List.take_append_of_le_length (by omega)]
    have:=h k h1
    rwa [List.getElem_append_left h1]
  · obtain rfl:k=rs.length:=by rw[List.length_append,List.length_singleton] at hk;omega
    rw[List.take_append_of_le_length (Nat.le_refl _),List.take_length,List.getElem_concat_length rfl]
    exact hr
theorem Ts.step_at {c:Cfg}{g:ByteArray->ByteArray}{rs:List Rc}{k:Nat}(hk:k<rs.length):Ts.all c g (rs.take (k+1))=(Ts.all c g (rs.take k)).does c rs[k]:=by
  rw[List.take_succ_eq_append_getElem hk,Ts.all_snoc]
theorem FitsT.take {c:Cfg}{g:ByteArray->ByteArray}{rs:List Rc}(h:FitsT c g rs):∀k,FitsT c g (rs.take k):=λk i hi=>by
  have hl:i<rs.length/\i<k:=by rw[List.length_take] at hi;omega
  rw[List.take_take,Nat.min_eq_left (by omega),List.getElem_take]
  exact h i hl.1
structure Ts.Few (s:Ts)(n:Nat):Prop where
  ids:s.ids.length<=n
  begun:s.begun<=4*n
  now:s.now<=1000*n
theorem Ts.step_same {c:Cfg}{s s':Ts}(hs:s.step c=some s'):s'.ids=s.ids/\s'.begun=s.begun/\s'.now=s.now/\s'.acked=s.acked:=by
  unfold Ts.step at hs
  split at hs
  · split at hs
    · cases hs
    · cases hs;exact⟨rfl,rfl,rfl,rfl⟩
  · split at hs
    · cases hs;exact⟨rfl,rfl,rfl,rfl⟩
    split at hs
    · cases hs;exact⟨rfl,rfl,rfl,rfl⟩
    split at hs
    · cases hs;exact⟨rfl,rfl,rfl,rfl⟩
    split at hs
    · cases hs
      unfold Ts.blame
      split<;>exact⟨rfl,rfl,rfl,rfl⟩
    · cases hs
theorem Ts.run_same {c:Cfg}:∀(n:Nat) (s:Ts),(s.run c n).ids=s.ids/\(s.run c n).begun=s.begun/\(s.run c n).now=s.now/\(s.run c n).acked=s.acked
  |0,s=>⟨rfl,rfl,rfl,rfl⟩
  |n+1,s=>by
    cases hs:s.step c with
    |none=>rw[Ts.run_none hs];exact⟨rfl,rfl,rfl,rfl⟩
    |some s'=>
      have e2:s.run c (n+1)=s'.run c n:=by rw[Ts.run,hs]
      obtain⟨a1,a2,a3,a4⟩:=Ts.run_same n s'
      obtain⟨b1,b2,b3,b4⟩:=Ts.step_same hs
      rw[e2]
      exact⟨a1.trans b1,a2.trans b2,a3.trans b3,a4.trans b4⟩
theorem Ts.Few.does {c:Cfg}{s:Ts}{r:Rc}{n:Nat}(h:s.Few n)(hI:s.Inv c)(hc:c.Ok)(hr:s.Can c r):(s.does c r).Few (n+1):=by
  obtain⟨f1,f2,f3⟩:=h
  unfold Ts.does
  split
  · exact⟨by simp;omega,by simp only;omega,by simp only;omega⟩
  split
  · exact⟨by simp only;omega,by simp only;omega,by simp only;omega⟩
  split
  · obtain⟨a1,a2,a3,_⟩:=Ts.run_same (c:=c) s.mu s
    have hI':=hI.run hc s.mu
    have R:=begins_ok (c:=c) (now:=(s.run c s.mu).now) c.window (s.run c s.mu).segs (s.run c s.mu).tip (s.run c s.mu).begun hI'.sm hI'.jobs
    have ht:=R.top
    have hw:=hc.2.2.2.1.2
    refine⟨?_,?_,?_⟩
    · show (s.run c s.mu).ids.length<=_
      rw[a1];omega
    · show (begins c _ c.window _ _ _).2<=_
      rw[a2] at ht ⊢
      omega
    · show (s.run c s.mu).now<=_
      rw[a3];omega
  split
  · exact⟨by show s.ids.length<=_;omega,by show s.begun<=_;omega,by show s.now<=_;omega⟩
  split
  · rename_i hk
    have:=(hr.tick hk).2
    exact⟨by show s.ids.length<=_;omega,by show s.begun<=_;omega,by show s.now+r.num<=_;omega⟩
  split
  · exact⟨by simp only;omega,by simp only;omega,by simp only;omega⟩
  · exact⟨by show s.ids.length<=_;omega,by show s.begun<=_;omega,by show s.now<=_;omega⟩
theorem FitsT.inv {c:Cfg}{g:ByteArray->ByteArray}{rs:List Rc}(h:FitsT c g rs)(hc:c.Ok):(Ts.all c g rs).Inv c/\(Ts.all c g rs).Few rs.length:=by
  have key:∀k,k<=rs.length->(Ts.all c g (rs.take k)).Inv c/\(Ts.all c g (rs.take k)).Few k:=λk=>by
    induction k with
    |zero=>intro _;exact⟨Ts.Inv.start c g,by simp[Ts.all,Ts.start],by simp[Ts.all,Ts.start],by simp[Ts.all,Ts.start]⟩
    |succ k ih=>
      intro hk
      rw[Ts.step_at (by omega)]
      obtain⟨i1,i2⟩:=ih (by omega)
      exact⟨i1.does hc (h k (by omega)),i2.does i1 hc (h k (by omega))⟩
  have:=key rs.length (Nat.le_refl _)
  rwa [List.take_length] at this
def FilesMap (w:World)(mb n:Nat)(g:ByteArray->ByteArray):Prop:=∃D:DataW Unit,w.ownsMap prog 9 fileElem mb n D/\MapIs D g
theorem FilesMap.same {w w':World}{mb n:Nat}{g:ByteArray->ByteArray}(h:FilesMap w mb n g)(hs:w'.heap[mb]? =w.heap[mb]?):FilesMap w' mb n g:=by
  obtain⟨D,⟨es,clock,hh,h2,h3,h4⟩,hM⟩:=h
  exact⟨D,⟨es,clock,hs.trans hh,h2,h3,h4⟩,hM⟩
theorem FilesMap.lt {w:World}{mb n:Nat}{g:ByteArray->ByteArray}(h:FilesMap w mb n g):mb<w.heap.size:=by
  obtain⟨D,⟨es,clock,hh,_⟩,_⟩:=h
  exact(Array.getElem?_eq_some_iff.1 hh).1
theorem FilesMap.ne_sl {w:World}{mb n:Nat}{g:ByteArray->ByteArray}{e:TypeId}{size m:Nat}{v:Value}{xs:List Value}(h:FilesMap w mb n g)(hS:Sl w e size v m xs):v.ownBlock≠some mb:=λhv=>by
  obtain⟨D,⟨es,clock,hh,_⟩,_⟩:=h
  obtain⟨cur,hc⟩:=hS.typed hv
  rw[hc] at hh;cases hh
theorem FilesMap.ne_box {w:World}{mb n b:Nat}{g:ByteArray->ByteArray}{t:TypeId}{cs:Array Value}(h:FilesMap w mb n g)(hB:Bx w b t cs):mb≠b:=λe=>by
  obtain⟨D,⟨es,clock,hh,_⟩,_⟩:=h
  subst e
  unfold Bx at hB
  rw[hB] at hh;cases hh
theorem Bx.later {w w':World}{b:Nat}{t:TypeId}{cs:Array Value}(h:Bx w b t cs)(hb:Below w.heap.size w w'):Bx w' b t cs:=(hb.block b h.lt).trans h
theorem Bx.kept {w w':World}{b:Nat}{t:TypeId}{cs:Array Value}(h:Bx w b t cs){S:Nat->Prop}(hO:Only w w' S)(hn:¬S b):Bx w' b t cs:=(hO.block b h.lt hn).trans h
def Plus (S:Nat->Prop)(w:World):Nat->Prop:=λk=>S k\/w.heap.size<=k
theorem Plus.not {S:Nat->Prop}{w:World}{k:Nat}(h:¬S k)(hl:k<w.heap.size):¬Plus S w k:=λe=>by
  rcases e with e|e
  · exact h e
  · omega
theorem Plus.old {S:Nat->Prop}(w:World):∀k,S k->Plus S w k:=λ_ h=>.inl h
theorem Plus.two {S:Nat->Prop}{w w1:World}(h:w.heap.size<=w1.heap.size):∀k,Plus (Plus S w) w1 k->Plus S w k:=λk hk=>by
  rcases hk with hk|hk
  · exact hk
  · exact .inr (Nat.le_trans h hk)
def tMap:TypeId:=1000000
def TyAt (w:World)(k:Nat)(t:TypeId):Prop:=(∃cur,w.heap[k]? =some (.cells cur t (0,0)))\/(t=tMap/\∃es clock,w.heap[k]? =some (.map es clock))
theorem TyAt.one {w:World}{k:Nat}{t t':TypeId}(h:TyAt w k t)(h':TyAt w k t'):t=t':=by
  rcases h with ⟨c,e⟩|⟨rfl,es,cl,e⟩<;>rcases h' with ⟨c',e'⟩|⟨rfl,es',cl',e'⟩<;>rw[e] at e'
  · injection e' with e'
    injection e' with _ h2 _
  · cases e'
  · cases e'
theorem TyAt.lt {w:World}{k:Nat}{t:TypeId}(h:TyAt w k t):k<w.heap.size:=by
  rcases h with ⟨c,e⟩|⟨_,es,cl,e⟩<;>exact(Array.getElem?_eq_some_iff.1 e).1
theorem Bx.ty {w:World}{b:Nat}{t:TypeId}{cs:Array Value}(h:Bx w b t cs):TyAt w b t:=.inl ⟨cs,h⟩
theorem Sl.ty {w:World}{e:TypeId}{size n:Nat}{v:Value}{xs:List Value}(h:Sl w e size v n xs){g:Nat}(hg:v.ownBlock=some g):TyAt w g e:=.inl (h.typed hg)
theorem Subm.ty {w:World}{sb:Nat}{ids:List Nat}(h:Subm w sb ids):TyAt w sb tMap:=by
  obtain⟨D,⟨es,clock,hh,_⟩,_⟩:=h
  exact .inr ⟨rfl,es,clock,hh⟩
theorem FilesMap.ty {w:World}{mb n:Nat}{g:ByteArray->ByteArray}(h:FilesMap w mb n g):TyAt w mb tMap:=by
  obtain⟨D,⟨es,clock,hh,_⟩,_⟩:=h
  exact .inr ⟨rfl,es,clock,hh⟩
def OnlyT (w w':World)(S:Nat->Prop)(ts:List TypeId):Prop:=Only w w' λk=>S k/\∃t∈ts,TyAt w k t
theorem OnlyT.only {w w':World}{S:Nat->Prop}{ts:List TypeId}(h:OnlyT w w' S ts):Only w w' S:=Only.mono h λ_ hk=>hk.1
theorem OnlyT.size {w w':World}{S:Nat->Prop}{ts:List TypeId}(h:OnlyT w w' S ts):w.heap.size<=w'.heap.size:=Only.size h
theorem OnlyT.mono {w w':World}{S T:Nat->Prop}{ts us:List TypeId}(h:OnlyT w w' S ts)(hS:∀k,S k->T k)(ht:∀t∈ts,t∈us):OnlyT w w' T us:=Only.mono h λk ⟨h1,t,h2,h3⟩=>⟨hS k h1,t,ht t h2,h3⟩
theorem OnlyT.keep {w w':World}{S:Nat->Prop}{ts:List TypeId}(h:OnlyT w w' S ts){k:Nat}{t:TypeId}(hk:TyAt w k t)(ht:t∉ts):w'.heap[k]? =w.heap[k]? :=
  Only.block h k hk.lt λ⟨_,_,h1,h2⟩=>ht (hk.one h2▸h1)
structure KeepT (w w':World)(ts:List TypeId):Prop where
  size:w.heap.size<=w'.heap.size
  same:∀k t,TyAt w k t->t∉ts->w'.heap[k]? =w.heap[k]?
theorem OnlyT.k {w w':World}{S:Nat->Prop}{ts:List TypeId}(h:OnlyT w w' S ts):KeepT w w' ts:=⟨h.size,λ_ _ hk ht=>h.keep hk ht⟩
theorem KeepT.sl {w w':World}{ts:List TypeId}(h:KeepT w w' ts){e:TypeId}{size n:Nat}{v:Value}{xs:List Value}(hs:Sl w e size v n xs)(ht:e∉ts):Sl w' e size v n xs:=hs.kept λ_ hg=>h.same _ _ (hs.ty hg) ht
theorem KeepT.bx {w w':World}{ts:List TypeId}(h:KeepT w w' ts){b:Nat}{t:TypeId}{cs:Array Value}(hb:Bx w b t cs)(ht:t∉ts):Bx w' b t cs:=(h.same _ _ hb.ty ht).trans hb
theorem KeepT.sub {w w':World}{ts:List TypeId}(h:KeepT w w' ts){sb:Nat}{ids:List Nat}(hs:Subm w sb ids)(ht:tMap∉ts):Subm w' sb ids:=hs.same (h.same _ _ hs.ty ht)
theorem KeepT.map {w w':World}{ts:List TypeId}(h:KeepT w w' ts){mb n:Nat}{g:ByteArray->ByteArray}(hm:FilesMap w mb n g)(ht:tMap∉ts):FilesMap w' mb n g:=hm.same (h.same _ _ hm.ty ht)
theorem OnlyT.sl {w w':World}{S:Nat->Prop}{ts:List TypeId}(h:OnlyT w w' S ts){e:TypeId}{size n:Nat}{v:Value}{xs:List Value}(hs:Sl w e size v n xs)(ht:e∉ts):Sl w' e size v n xs:=h.k.sl hs ht
theorem OnlyT.bx {w w':World}{S:Nat->Prop}{ts:List TypeId}(h:OnlyT w w' S ts){b:Nat}{t:TypeId}{cs:Array Value}(hb:Bx w b t cs)(ht:t∉ts):Bx w' b t cs:=h.k.bx hb ht
theorem OnlyT.sub {w w':World}{S:Nat->Prop}{ts:List TypeId}(h:OnlyT w w' S ts){sb:Nat}{ids:List Nat}(hs:Subm w sb ids)(ht:tMap∉ts):Subm w' sb ids:=h.k.sub hs ht
theorem OnlyT.map {w w':World}{S:Nat->Prop}{ts:List TypeId}(h:OnlyT w w' S ts){mb n:Nat}{g:ByteArray->ByteArray}(hm:FilesMap w mb n g)(ht:tMap∉ts):FilesMap w' mb n g:=h.k.map hm ht
theorem OnlyT.trans {w w1 w2:World}{S T:Nat->Prop}{ts us:List TypeId}(h:OnlyT w w1 S ts)(h2:OnlyT w1 w2 T us)(hT:∀k,T k->Plus S w k):OnlyT w w2 S (ts++us):=by
  have key:∀k,k<w.heap.size->¬(S k/\∃t∈ts++us,TyAt w k t)->w2.heap[k]? =w.heap[k]? :=λk hk hn=>by
    have e1:w1.heap[k]? =w.heap[k]? :=Only.block h k hk λ⟨a,t,b,d⟩=>hn ⟨a,t,List.mem_append_left _ b,d⟩
    refine(Only.block h2 k (Nat.lt_of_lt_of_le hk h.size) λ⟨a,t,b,d⟩=>hn ⟨?_,t,List.mem_append_right _ b,by unfold TyAt at d ⊢;rwa [e1] at d⟩).trans e1
    rcases hT k a with x|x
    · exact x
    · omega
  exact⟨(Only.os h2).trans (Only.os h),(Only.tape h2).trans (Only.tape h),(Only.output h2).trans (Only.output h),Nat.le_trans h.size h2.size,key⟩
theorem OnlyT.below {w w':World}{S:Nat->Prop}{ts:List TypeId}(h:Below w.heap.size w w'):OnlyT w w' S ts:=Only.of_below h
theorem OnlyT.refl (w:World)(S:Nat->Prop)(ts:List TypeId):OnlyT w w S ts:=Only.refl w _
theorem OnlyT.from_new {w w':World}{o:Obj}{S:Nat->Prop}{ts:List TypeId}(h:OnlyT (w.alloc o) w' S ts):OnlyT w w' S ts:=(OnlyT.below (ts:=[]) (below_new w o)).trans h (Plus.old w)
theorem OnlyT.mk {w w':World}{S E:Nat->Prop}{ts:List TypeId}(h:Only w w' E)(hE:∀k,k<w.heap.size->E k->S k/\∃t∈ts,TyAt w k t):OnlyT w w' S ts:=
  ⟨h.os,h.tape,h.output,h.size,λk hk hn=>h.block k hk λe=>hn (hE k hk e)⟩
abbrev Cw:=Cg×Value
def cC (y:Cw):List Value:=[.int .i64 y.1.1,y.2]
def cI (n:Nat):Value:=.int .i64 n
def ptr (p:Nat):Value:=.pointer (some ⟨p,0,none⟩)
def In (S:Nat->Prop)(v:Value):Prop:=∀g,v.ownBlock=some g->S g
theorem In.mono {S T:Nat->Prop}{v:Value}(h:In S v)(hST:∀k,S k->T k):In T v:=λg hg=>hST g (h g hg)
structure ChsIs (w:World)(S:Nat->Prop)(cv:Value)(l:List Cg)(cl:List Cw):Prop where
  fst:cl.map Prod.fst=l
  row:Sl w 273 2 cv cl.length (cl.flatMap cC)
  own:In S cv
  eds:∀y∈cl,Sl w 49 3 y.2 y.1.2.length (y.1.2.flatMap cE)/\In S y.2
def JobIs (w:World)(S:Nat->Prop)(N:Nat)(v:Value):Option Jb->Prop
  |none=>v=.pointer none
  |some j=>∃b tv fl,v=ptr b/\Bx w b 242 #[.int .i64 j.num,.int .i64 j.til,tv]/\Sl w 80 2 tv fl.length (fl.flatMap cF)/\Told fl j.files/\fl.length<=N/\S b/\In S tv
def segCells (cv:Value)(fails by_:Nat)(jv:Value):Array Value:=#[cv,.int .i64 fails,.int .i64 by_,jv]
structure SegIs (w:World)(S:Nat->Prop)(N p:Nat)(x:Sm)(cv jv:Value)(cl:List Cw):Prop where
  box:Bx w p 240 (segCells cv x.fails x.by_ jv)
  chs:ChsIs w S cv x.l cl
  job:JobIs w S N jv x.job
  own:S p
def SegAt (w:World)(S:Nat->Prop)(N:Nat)(z:Nat×Sm):Prop:=∃cv jv cl,SegIs w S N z.1 z.2 cv jv cl
structure TrainIs (w:World)(S:Nat->Prop)(N:Nat)(tv:Value)(l:List Sm)(zs:List (Nat×Sm)):Prop where
  snd:zs.map Prod.snd=l
  row:Sl w 210 1 tv zs.length (zs.map λz=>ptr z.1)
  own:In S tv
  nd:(zs.map Prod.fst).Nodup
  segs:∀z∈zs,SegAt w S N z
abbrev Tp:=(Nat×List Nat)×Value
def cTp (y:Tp):List Value:=[.int .i64 y.1.1,y.2]
structure MainIs (w:World)(S:Nat->Prop)(mv:Value)(l:List (Nat×List Nat))(tl:List Tp):Prop where
  fst:tl.map Prod.fst=l
  row:Sl w 110 2 mv tl.length (tl.flatMap cTp)
  own:In S mv
  ids:∀y∈tl,Sl w 3 1 y.2 y.1.2.length (y.1.2.map cI)/\In S y.2
structure QIs (w:World)(S:Nat->Prop)(age:Nat)(q:List Pw)(qv:Value):Prop where
  row:Sl w 193 6 qv q.length (q.flatMap (cP age))
  eds:∀y∈q,Sl w 49 3 y.2 y.1.edits.length (y.1.edits.flatMap cE)
  fq:In S qv
  fe:∀y∈q,In S y.2
structure OIs (w:World)(S:Nat->Prop)(outs:List (Nat×Nat))(acked:Nat)(ov:Value):Prop where
  row:Sl w 99 3 ov (outs.length-acked) (oc acked (outs.drop acked))
  own:In S ov
structure Xt where
  tip:Nat
  mv:Value
  tv:Value
  n:Nat
def yardCells (c:Cfg)(x:Xt)(begun now:Nat)(qv:Value)(sb n:Nat)(ov:Value):Array Value:=
  #[.int .i64 c.lanes,.int .i64 c.age,.int .i64 c.batch,.int .i64 c.window,.int .i64 c.retries,.int .i64 c.deadline,.int .i64 c.queue,.map (some x.tip),x.mv,qv,.map (some sb),x.tv,.int .i64 begun,.int .i64 now,.int .i64 n,ov]
def Ts.top (n0:Nat)(s:Ts):Nat:=n0+4*s.ids.length+256
structure RestIs (w:World)(S:Nat->Prop)(mb n0:Nat)(s:Ts)(x:Xt)(tl:List Tp)(zs:List (Nat×Sm)):Prop where
  nm:¬S mb
  ml:mb<w.heap.size
  tip:x.tip=mb\/S x.tip
  map:FilesMap w x.tip x.n s.tip
  main:MainIs w S x.mv s.main tl
  train:TrainIs w S (s.top n0) x.tv s.segs zs
def RestAt (w:World)(S:Nat->Prop)(mb n0:Nat)(s:Ts)(x:Xt):Prop:=∃tl zs,RestIs w S mb n0 s x tl zs
theorem ChsIs.kept {w w':World}{S T:Nat->Prop}{cv:Value}{l:List Cg}{cl:List Cw}(h:ChsIs w S cv l cl)(hk:∀k,k<w.heap.size->S k->w'.heap[k]? =w.heap[k]?)(hST:∀k,S k->T k):ChsIs w' T cv l cl:=
  ⟨h.fst,h.row.kept λg hg=>hk g (h.row.lt hg) (h.own g hg),h.own.mono hST,λy hy=>⟨(h.eds y hy).1.kept λg hg=>hk g ((h.eds y hy).1.lt hg) ((h.eds y hy).2 g hg),(h.eds y hy).2.mono hST⟩⟩
theorem JobIs.kept {w w':World}{S T:Nat->Prop}{N N':Nat}{v:Value}{j:Option Jb}(h:JobIs w S N v j)(hk:∀k,k<w.heap.size->S k->w'.heap[k]? =w.heap[k]?)(hST:∀k,S k->T k)(hN:N<=N'):JobIs w' T N' v j:=by
  cases j with
  |none=>exact h
  |some j=>
    obtain⟨b,tv,fl,e,hb,hs,ht,hl,h1,h2⟩:=h
    exact⟨b,tv,fl,e,(hk _ hb.lt h1).trans hb,hs.kept λg hg=>hk g (hs.lt hg) (h2 g hg),ht,Nat.le_trans hl hN,hST _ h1,h2.mono hST⟩
theorem SegAt.kept {w w':World}{S T:Nat->Prop}{N N':Nat}{z:Nat×Sm}(h:SegAt w S N z)(hk:∀k,k<w.heap.size->S k->w'.heap[k]? =w.heap[k]?)(hST:∀k,S k->T k)(hN:N<=N'):SegAt w' T N' z:=by
  obtain⟨cv,jv,cl,h⟩:=h
  exact⟨cv,jv,cl,(hk _ h.box.lt h.own).trans h.box,h.chs.kept hk hST,h.job.kept hk hST hN,hST _ h.own⟩
theorem TrainIs.kept {w w':World}{S T:Nat->Prop}{N N':Nat}{tv:Value}{l:List Sm}{zs:List (Nat×Sm)}(h:TrainIs w S N tv l zs)(hk:∀k,k<w.heap.size->S k->w'.heap[k]? =w.heap[k]?)(hST:∀k,S k->T k)(hN:N<=N'):TrainIs w' T N' tv l zs:=
  ⟨h.snd,h.row.kept λg hg=>hk g (h.row.lt hg) (h.own g hg),h.own.mono hST,h.nd,λz hz=>(h.segs z hz).kept hk hST hN⟩
theorem MainIs.kept {w w':World}{S T:Nat->Prop}{mv:Value}{l:List (Nat×List Nat)}{tl:List Tp}(h:MainIs w S mv l tl)(hk:∀k,k<w.heap.size->S k->w'.heap[k]? =w.heap[k]?)(hST:∀k,S k->T k):MainIs w' T mv l tl:=
  ⟨h.fst,h.row.kept λg hg=>hk g (h.row.lt hg) (h.own g hg),h.own.mono hST,λy hy=>⟨(h.ids y hy).1.kept λg hg=>hk g ((h.ids y hy).1.lt hg) ((h.ids y hy).2 g hg),(h.ids y hy).2.mono hST⟩⟩
theorem QIs.kept {w w':World}{S T:Nat->Prop}{age:Nat}{q:List Pw}{qv:Value}(h:QIs w S age q qv)(hk:∀k,k<w.heap.size->S k->w'.heap[k]? =w.heap[k]?)(hST:∀k,S k->T k):QIs w' T age q qv:=
  ⟨h.row.kept λg hg=>hk g (h.row.lt hg) (h.fq g hg),λy hy=>(h.eds y hy).kept λg hg=>hk g ((h.eds y hy).lt hg) (h.fe y hy g hg),h.fq.mono hST,λy hy=>(h.fe y hy).mono hST⟩
theorem OIs.kept {w w':World}{S T:Nat->Prop}{outs:List (Nat×Nat)}{acked:Nat}{ov:Value}(h:OIs w S outs acked ov)(hk:∀k,k<w.heap.size->S k->w'.heap[k]? =w.heap[k]?)(hST:∀k,S k->T k):OIs w' T outs acked ov:=
  ⟨h.row.kept λg hg=>hk g (h.row.lt hg) (h.own g hg),h.own.mono hST⟩
theorem RestIs.kept {w w':World}{S T:Nat->Prop}{mb n0:Nat}{s s':Ts}{x:Xt}{tl:List Tp}{zs:List (Nat×Sm)}(h:RestIs w S mb n0 s x tl zs)(hz:w.heap.size<=w'.heap.size)(hk:∀k,k<w.heap.size->S k\/k=mb->w'.heap[k]? =w.heap[k]?)(hST:∀k,S k->T k)(hn:¬T mb)(ht:s'.tip=s.tip)(hm:s'.main=s.main)(hs:s'.segs=s.segs)(hi:s.ids.length<=s'.ids.length):RestIs w' T mb n0 s' x tl zs:=by
  refine⟨hn,Nat.lt_of_lt_of_le h.ml hz,h.tip.imp (λh=>h) (hST _),?_,?_,?_⟩
  · rw[ht]
    exact h.map.same (hk _ h.map.lt (h.tip.elim .inr .inl))
  · rw[hm];exact h.main.kept (λk hl hS=>hk k hl (.inl hS)) hST
  · rw[hs];exact h.train.kept (λk hl hS=>hk k hl (.inl hS)) hST (by unfold Ts.top;omega)
theorem ChsIs.keptT {w w':World}{S T:Nat->Prop}{ts:List TypeId}{cv:Value}{l:List Cg}{cl:List Cw}(h:ChsIs w S cv l cl)(hO:KeepT w w' ts)(hST:∀k,S k->T k)(h1:273∉ts)(h2:49∉ts):ChsIs w' T cv l cl:=
  ⟨h.fst,hO.sl h.row h1,h.own.mono hST,λy hy=>⟨hO.sl (h.eds y hy).1 h2,(h.eds y hy).2.mono hST⟩⟩
theorem JobIs.keptT {w w':World}{S T:Nat->Prop}{ts:List TypeId}{N N':Nat}{v:Value}{j:Option Jb}(h:JobIs w S N v j)(hO:KeepT w w' ts)(hST:∀k,S k->T k)(hN:N<=N')(h1:242∉ts)(h2:80∉ts):JobIs w' T N' v j:=by
  cases j with
  |none=>exact h
  |some j=>
    obtain⟨b,tv,fl,e,hb,hs,ht,hl,k1,k2⟩:=h
    exact⟨b,tv,fl,e,hO.bx hb h1,hO.sl hs h2,ht,Nat.le_trans hl hN,hST _ k1,k2.mono hST⟩
def NoSeg (ts:List TypeId):Prop:=273∉ts/\49∉ts/\242∉ts/\80∉ts
theorem SegAt.keptT {w w':World}{S T:Nat->Prop}{ts:List TypeId}{N N':Nat}{z:Nat×Sm}(h:SegAt w S N z)(hO:KeepT w w' ts)(hST:∀k,S k->T k)(hN:N<=N')(h0:240∉ts)(h1:NoSeg ts):SegAt w' T N' z:=by
  obtain⟨cv,jv,cl,h⟩:=h
  exact⟨cv,jv,cl,hO.bx h.box h0,h.chs.keptT hO hST h1.1 h1.2.1,h.job.keptT hO hST hN h1.2.2.1 h1.2.2.2,hST _ h.own⟩
theorem TrainIs.keptT {w w':World}{S T:Nat->Prop}{ts:List TypeId}{N N':Nat}{tv:Value}{l:List Sm}{zs:List (Nat×Sm)}(h:TrainIs w S N tv l zs)(hO:KeepT w w' ts)(hST:∀k,S k->T k)(hN:N<=N')(hp:210∉ts)(h0:240∉ts)(h1:NoSeg ts):TrainIs w' T N' tv l zs:=
  ⟨h.snd,hO.sl h.row hp,h.own.mono hST,h.nd,λz hz=>(h.segs z hz).keptT hO hST hN h0 h1⟩
theorem MainIs.keptT {w w':World}{S T:Nat->Prop}{ts:List TypeId}{mv:Value}{l:List (Nat×List Nat)}{tl:List Tp}(h:MainIs w S mv l tl)(hO:KeepT w w' ts)(hST:∀k,S k->T k)(h1:110∉ts)(h2:3∉ts):MainIs w' T mv l tl:=
  ⟨h.fst,hO.sl h.row h1,h.own.mono hST,λy hy=>⟨hO.sl (h.ids y hy).1 h2,(h.ids y hy).2.mono hST⟩⟩
theorem QIs.keptT {w w':World}{S T:Nat->Prop}{ts:List TypeId}{age:Nat}{q:List Pw}{qv:Value}(h:QIs w S age q qv)(hO:KeepT w w' ts)(hST:∀k,S k->T k)(h1:193∉ts)(h2:49∉ts):QIs w' T age q qv:=
  ⟨hO.sl h.row h1,λy hy=>hO.sl (h.eds y hy) h2,h.fq.mono hST,λy hy=>(h.fe y hy).mono hST⟩
theorem OIs.keptT {w w':World}{S T:Nat->Prop}{ts:List TypeId}{outs:List (Nat×Nat)}{acked:Nat}{ov:Value}(h:OIs w S outs acked ov)(hO:KeepT w w' ts)(hST:∀k,S k->T k)(h1:99∉ts):OIs w' T outs acked ov:=⟨hO.sl h.row h1,h.own.mono hST⟩
def NoRest (ts:List TypeId):Prop:=110∉ts/\3∉ts/\210∉ts/\240∉ts/\NoSeg ts
theorem RestIs.keptT {w w':World}{S T:Nat->Prop}{ts:List TypeId}{mb n0:Nat}{s s':Ts}{x:Xt}{tl:List Tp}{zs:List (Nat×Sm)}(h:RestIs w S mb n0 s x tl zs)(hO:KeepT w w' ts)(hST:∀k,S k->T k)(hn:¬T mb)(ht:s'.tip=s.tip)(hm:s'.main=s.main)(hs:s'.segs=s.segs)(hi:s.ids.length<=s'.ids.length)(hT:NoRest ts)(hM:FilesMap w' x.tip x.n s.tip):RestIs w' T mb n0 s' x tl zs:=
  ⟨hn,Nat.lt_of_lt_of_le h.ml hO.size,h.tip.imp (λh=>h) (hST _),ht▸hM,hm▸h.main.keptT hO hST hT.1 hT.2.1,hs▸h.train.keptT hO hST (by unfold Ts.top;omega) hT.2.2.1 hT.2.2.2.1 hT.2.2.2.2⟩
structure YardIs (w:World)(S:Nat->Prop)(yb mb n0:Nat)(c:Cfg)(s:Ts)(q:List Pw)(sb:Nat)(qv ov:Value)(x:Xt):Prop where
  qs:(q.map Prod.fst).Perm s.queue
  box:Bx w yb 201 (yardCells c x s.begun s.now qv sb s.outs.length ov)
  que:QIs w S c.age q qv
  sub:Subm w sb s.ids
  outs:OIs w S s.outs s.acked ov
  fy:S yb
  fs:S sb
  rest:RestAt w S mb n0 s x
  nt:sb≠x.tip
def YardAt (w:World)(S:Nat->Prop)(yb mb n0:Nat)(c:Cfg)(s:Ts):Prop:=∃q sb qv ov x,YardIs w S yb mb n0 c s q sb qv ov x/\x.n<=n0+4*s.outs.length
theorem YardIs.kept {w w':World}{S T:Nat->Prop}{yb mb n0:Nat}{c:Cfg}{s:Ts}{q:List Pw}{sb:Nat}{qv ov:Value}{x:Xt}(h:YardIs w S yb mb n0 c s q sb qv ov x)(hz:w.heap.size<=w'.heap.size)(hk:∀k,k<w.heap.size->S k\/k=mb->w'.heap[k]? =w.heap[k]?)(hST:∀k,S k->T k)(hn:¬T mb):YardIs w' T yb mb n0 c s q sb qv ov x:=by
  obtain⟨tl,zs,hr⟩:=h.rest
  have hk':∀k,k<w.heap.size->S k->w'.heap[k]? =w.heap[k]? :=λk hl hS=>hk k hl (.inl hS)
  exact⟨h.qs,(hk' _ h.box.lt h.fy).trans h.box,h.que.kept hk' hST,h.sub.same (hk' _ h.sub.lt h.fs),h.outs.kept hk' hST,hST _ h.fy,hST _ h.fs,⟨tl,zs,hr.kept hz hk hST hn rfl rfl rfl (Nat.le_refl _)⟩,h.nt⟩
theorem YardIs.nm {w:World}{S:Nat->Prop}{yb mb n0:Nat}{c:Cfg}{s:Ts}{q:List Pw}{sb:Nat}{qv ov:Value}{x:Xt}(h:YardIs w S yb mb n0 c s q sb qv ov x):¬S mb/\mb<w.heap.size:=by
  obtain⟨tl,zs,hr⟩:=h.rest
  exact⟨hr.nm,hr.ml⟩
theorem YardIs.np {w:World}{S:Nat->Prop}{yb mb n0:Nat}{c:Cfg}{s:Ts}{q:List Pw}{sb:Nat}{qv ov:Value}{x:Xt}(h:YardIs w S yb mb n0 c s q sb qv ov x):¬Plus S w mb:=Plus.not h.nm.1 h.nm.2
theorem YardAt.nm {w:World}{S:Nat->Prop}{yb mb n0:Nat}{c:Cfg}{s:Ts}(h:YardAt w S yb mb n0 c s):¬S mb/\mb<w.heap.size:=by
  obtain⟨q,sb,qv,ov,x,h,_⟩:=h
  exact h.nm
theorem YardAt.kept {w w':World}{S:Nat->Prop}{yb mb n0:Nat}{c:Cfg}{s:Ts}(h:YardAt w S yb mb n0 c s)(hz:w.heap.size<=w'.heap.size)(hk:∀k,k<w.heap.size->S k\/k=mb->w'.heap[k]? =w.heap[k]?):YardAt w' S yb mb n0 c s:=by
  obtain⟨q,sb,qv,ov,x,h,hx⟩:=h
  exact⟨q,sb,qv,ov,x,h.kept hz hk (λ_ h=>h) h.nm.1,hx⟩
theorem YardAt.later {w w':World}{S:Nat->Prop}{yb mb n0:Nat}{c:Cfg}{s:Ts}(h:YardAt w S yb mb n0 c s)(hb:Below w.heap.size w w'):YardAt w' S yb mb n0 c s:=h.kept hb.size λk hk _=>hb.block k hk
theorem YardAt.mono {w:World}{S T:Nat->Prop}{yb mb n0:Nat}{c:Cfg}{s:Ts}(h:YardAt w S yb mb n0 c s)(hST:∀k,S k->T k)(hn:¬T mb):YardAt w T yb mb n0 c s:=by
  obtain⟨q,sb,qv,ov,x,h,hx⟩:=h
  exact⟨q,sb,qv,ov,x,h.kept (Nat.le_refl _) (λ_ _ _=>rfl) hST hn,hx⟩
theorem YardIs.later {w w':World}{S:Nat->Prop}{yb mb n0:Nat}{c:Cfg}{s:Ts}{q:List Pw}{sb:Nat}{qv ov:Value}{x:Xt}(h:YardIs w S yb mb n0 c s q sb qv ov x)(hb:Below w.heap.size w w'):YardIs w' S yb mb n0 c s q sb qv ov x:=h.kept hb.size (λk hk _=>hb.block k hk) (λ_ h=>h) h.nm.1
theorem YardIs.mono {w:World}{S T:Nat->Prop}{yb mb n0:Nat}{c:Cfg}{s:Ts}{q:List Pw}{sb:Nat}{qv ov:Value}{x:Xt}(h:YardIs w S yb mb n0 c s q sb qv ov x)(hST:∀k,S k->T k)(hn:¬T mb):YardIs w T yb mb n0 c s q sb qv ov x:=h.kept (Nat.le_refl _) (λ_ _ _=>rfl) hST hn
theorem YardIs.sl {w:World}{S:Nat->Prop}{yb mb n0:Nat}{c:Cfg}{s:Ts}{q:List Pw}{sb:Nat}{qv ov:Value}{x:Xt}(h:YardIs w S yb mb n0 c s q sb qv ov x):∀y∈q,IsSl y.2:=λy hy=>by
  obtain⟨a,cap,e⟩:=(h.que.eds y hy).form
  exact⟨a,_,cap,e⟩
theorem YardIs.qlen {w:World}{S:Nat->Prop}{yb mb n0:Nat}{c:Cfg}{s:Ts}{q:List Pw}{sb:Nat}{qv ov:Value}{x:Xt}(h:YardIs w S yb mb n0 c s q sb qv ov x):q.length=s.queue.length:=by rw[<-h.qs.length_eq,List.length_map]
theorem Subm.ne_box {w:World}{sb b:Nat}{ids:List Nat}{t:TypeId}{cs:Array Value}(h:Subm w sb ids)(hB:Bx w b t cs):sb≠b:=λe=>by
  obtain⟨D,⟨es,clock,hh,_⟩,_⟩:=h
  subst e
  unfold Bx at hB
  rw[hB] at hh;cases hh
theorem Sl.apart {w:World}{e e':TypeId}{size n size' n':Nat}{v v':Value}{xs xs':List Value}(h:Sl w e size v n xs)(h':Sl w e' size' v' n' xs')(hne:e≠e'){g:Nat}(hv:v.ownBlock=some g):v'.ownBlock≠some g:=λhv'=>by
  obtain⟨cur,hc⟩:=h.typed hv
  obtain⟨cur',hc'⟩:=h'.typed hv'
  rw[hc] at hc'
  injection hc' with hc'
  injection hc' with _ h2 _
  exact hne h2
end Go.Proofs.YtgamgomepdfgdaaGreat
