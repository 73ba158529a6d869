import Derived.Test.YtgamgomepdfgdaaGreatFM10
set_option maxRecDepth 100000
set_option maxHeartbeats 8000000
namespace Go.Proofs.YtgamgomepdfgdaaGreat
open Go.RowKit Go.Proofs.Tryz
def Lists (l:List Fl)(g:ByteArray->ByteArray):Prop:=Apart Prod.fst l/\Full l/\∀q,standsL l q=g q
theorem Told.lists {l:List Fl}{g:ByteArray->ByteArray}(h:Told l g):Lists l g:=⟨h.1.apart,h.2.1,h.2.2⟩
theorem Lists.nil : Lists [] (fun _ => ⟨#[]⟩) := ⟨List.Pairwise.nil, fun f hf => by simp at hf, fun _ => rfl⟩
theorem Lists.made {l:List Fl}{g:ByteArray->ByteArray}(h:Lists l g)(es:List Ed):Lists (withL l es) (edited g es):=by
  obtain⟨a,b,e⟩:=withL_inv h.1 h.2.1 es
  exact⟨a,b,λq=>by rw[e,show standsL l=g from funext h.2.2]⟩
def alikeL (a b:List Fl):Bool:=a.length==b.length&&a.all λf=>(standsL b f.1).toList==f.2.toList
theorem Lists.alike {a b:List Fl}{g:ByteArray->ByteArray}(ha:Lists a g)(hb:Lists b g):alikeL a b=true:=by
  have hp:a.Perm b:=(List.perm_ext_iff_of_nodup ha.1.nodup hb.1.nodup).2 λf=>by rw[mem_iff_stands ha.1 ha.2.1,mem_iff_stands hb.1 hb.2.1,ha.2.2,hb.2.2]
  unfold alikeL
  rw[Bool.and_eq_true,beq_iff_eq,List.all_eq_true]
  exact⟨hp.length_eq,λf hf=>(beq_true_iff _ _).2 (standsL_mem hb.1 (hp.mem_iff.1 hf))⟩
def onL (l:List Fl)(es:List Ed):Bool:=es.all λe=>(standsL l e.1).toList==e.2.1.toList
theorem Lists.on {l:List Fl}{g:ByteArray->ByteArray}(h:Lists l g)(es:List Ed):onL l es=appOn g es:=by unfold onL appOn;rw[show standsL l=g from funext h.2.2]
structure Kn where
  id:Nat
  kind:Nat
  es:List Ed
structure Eo where
  num:Nat
  til:Nat
  ids:List Nat
  tree:List Fl
  how:Nat
  held:Nat
def failP (id:Nat)(t:List Fl)(e:Eo):Bool:=e.how==2&&alikeL e.tree t&&e.ids.getLast? ==some id
def failN (js:List Eo)(id:Nat)(t:List Fl):Nat:=js.countP (failP id t)
def Has (K:List Kn)(y:Cg):Prop:=∃k∈K,k.id=y.1/\k.es=y.2
def Sm.bare (x:Sm):Prop:=x.job=none/\x.by_=0/\x.fails=0
def Sm.last (x:Sm):Option Nat:=(x.l.map Prod.fst).getLast?
theorem Sm.new_bare (l:List Cg):(Sm.new l).bare:=⟨rfl,rfl,rfl⟩
structure One (js:List Eo)(x:Sm)(t:ByteArray->ByteArray):Prop where
  job:∀j,x.job=some j->j.files=t/\((∃e∈js,e.num=j.num/\e.how=0/\Lists e.tree t/\e.ids.getLast? =x.last)\/∀e∈js,e.num≠j.num)
  by_:x.by_≠0->∃e∈js,e.num=x.by_/\e.how=1/\Lists e.tree t
  fails:∀T id,Lists T t->x.last=some id->x.fails<=failN js id T
theorem One.bare {js:List Eo}{x:Sm}{t:ByteArray->ByteArray}(h:x.bare):One js x t:=
  ⟨λj hj=>(by rw[h.1] at hj;cases hj),λhb=>absurd h.2.1 hb,λ_ _ _ _=>by rw[h.2.2];exact Nat.zero_le _⟩
def SegsEv (js:List Eo):(ByteArray->ByteArray)->List Sm->Prop
  |_,[]=>True
  |g,x::m=>((makes g x.l).2=x.l.length->One js x (makes g x.l).1/\SegsEv js (makes g x.l).1 m)/\((makes g x.l).2≠x.l.length->∀y∈x::m,y.bare)
theorem SegsEv.bare {js:List Eo}:∀{l:List Sm} {g:ByteArray->ByteArray},(∀y∈l,y.bare)->SegsEv js g l
  |[],_,_=>trivial
  |x::_,_,h=>⟨λ_=>⟨One.bare (h x List.mem_cons_self),SegsEv.bare λy hy=>h y (List.mem_cons_of_mem _ hy)⟩,λ_=>h⟩
def Goes (c:Cfg)(js:List Eo)(K:List Kn):(ByteArray->ByteArray)->List (Nat×Nat)->(ByteArray->ByteArray)->Prop
  |t,[],t'=>t=t'
  |t,o::os,t'=>∃es,Has K (o.1,es)/\((o.2=1/\appOn t es=true/\Goes c js K (edited t es) os t')\/(o.2=2/\appOn t es=true/\(∀T,Lists T (edited t es)->c.retries<failN js o.1 T)/\Goes c js K t os t')\/(o.2=3/\appOn t es=false/\Goes c js K t os t')\/(o.2=4/\Goes c js K t os t'))
theorem Goes.append {c:Cfg}{js:List Eo}{K:List Kn}:∀{a b:List (Nat×Nat)} {t t1 t2:ByteArray->ByteArray},Goes c js K t a t1->Goes c js K t1 b t2->Goes c js K t (a++b) t2
  |[],_,_,_,_,h,h'=>by cases h;exact h'
  |_::_,_,_,_,_,⟨es,hk,h⟩,h'=>⟨es,hk,h.imp (λ⟨a,b,d⟩=>⟨a,b,d.append h'⟩) λh=>h.imp (λ⟨a,b,e,d⟩=>⟨a,b,e,d.append h'⟩) λh=>h.imp (λ⟨a,b,d⟩=>⟨a,b,d.append h'⟩) λ⟨a,d⟩=>⟨a,d.append h'⟩⟩
theorem Goes.lands {c:Cfg}{js:List Eo}{K:List Kn}:∀{l:List Cg} {t:ByteArray->ByteArray},(∀y∈l,Has K y)->(makes t l).2=l.length->Goes c js K t (l.map λx=>(x.1,1)) (makes t l).1
  |[],_,_,_=>rfl
  |x::l,t,h,hm=>by
    unfold makes at hm ⊢
    by_cases hx:appOn t x.2=true
    · simp only[hx,if_true,List.length_cons,Nat.add_right_cancel_iff] at hm ⊢
      exact⟨x.2,h x List.mem_cons_self,.inl ⟨rfl,hx,Goes.lands (λy hy=>h y (List.mem_cons_of_mem _ hy)) hm⟩⟩
    · simp[hx] at hm
def MainEv (js:List Eo)(K:List Kn):(ByteArray->ByteArray)->List (Nat×List Nat)->(ByteArray->ByteArray)->Prop
  |g,[],g'=>g=g'
  |g,y::m,g'=>∃l:List Cg,l≠[]/\l.map Prod.fst=y.2/\(∀z∈l,Has K z)/\(makes g l).2=l.length/\(∃e∈js,e.num=y.1/\e.how=1/\Lists e.tree (makes g l).1)/\MainEv js K (makes g l).1 m g'
theorem MainEv.snoc {js:List Eo}{K:List Kn}:∀{m:List (Nat×List Nat)} {g g':ByteArray->ByteArray} {l:List Cg} {n:Nat},MainEv js K g m g'->l≠[]->(∀z∈l,Has K z)->(makes g' l).2=l.length->(∃e∈js,e.num=n/\e.how=1/\Lists e.tree (makes g' l).1)->MainEv js K g (m++[(n,l.map Prod.fst)]) (makes g' l).1
  |[],g,g',l,n,h,h1,h2,h3,h4=>by cases h;exact⟨l,h1,rfl,h2,h3,h4,rfl⟩
  |_::_,_,_,_,_,⟨l',a,b,d,e,f,h⟩,h1,h2,h3,h4=>⟨l',a,b,d,e,f,h.snoc h1 h2 h3 h4⟩
structure Ev (js:List Eo)(K:List Kn)(s:Ts):Prop where
  nd:s.ids.Nodup
  perm:(s.outs.map Prod.fst++(s.queue.map Ch.id++(s.segs.flatMap Sm.l).map Prod.fst)).Perm s.ids
  eq:∀x∈s.queue,Has K (x.id,x.edits)
  es:∀x∈s.segs,∀y∈x.l,Has K y
  segs:SegsEv js s.tip s.segs
  mainI:s.main.flatMap Prod.snd=(s.outs.filter λo=>o.2==1).map Prod.fst
  main:MainEv js K (λ_=>⟨#[]⟩) s.main s.tip
  num:∀e∈js,e.num<=s.begun
  jn:(js.map Eo.num).Nodup
theorem flat_renew (m:List Sm):(m.map Sm.renew).flatMap Sm.l=m.flatMap Sm.l:=by
  rw[List.flatMap_map];rfl
theorem flat_newIf (l:List Cg):(newIf l).flatMap Sm.l=l:=by
  unfold newIf
  split
  · rename_i h
    rw[List.isEmpty_iff.1 h];rfl
  · simp[Sm.new]
theorem mem_renew {m:List Sm}{x:Sm}(h:x∈m.map Sm.renew):∃y∈m,x.l=y.l/\x.bare:=by
  obtain⟨y,hy,rfl⟩:=List.mem_map.1 h
  exact⟨y,hy,rfl,Sm.new_bare _⟩
theorem makes_one {g:ByteArray->ByteArray}{y:Cg}:(makes g [y]).2=1->appOn g y.2=true/\(makes g [y]).1=edited g y.2:=λh=>by
  unfold makes at h ⊢
  by_cases hx:appOn g y.2=true
  · simp[hx,makes]
  · simp[hx] at h
theorem makes_zero {g:ByteArray->ByteArray}{y:Cg}{l:List Cg}:(makes g (y::l)).2=0->appOn g y.2=false:=λh=>by
  unfold makes at h
  by_cases hx:appOn g y.2=true
  · simp[hx] at h
  · simpa using hx
theorem Ev.pick {c:Cfg}{js:List Eo}{K:List Kn}{s:Ts}(h:Ev js K s)(hI:s.Inv c)(hc:c.Ok)(e:s.segs=[]):Ev js K (s.pick c):=by
  have hp:=hI.ranked hc
  have hl:=hI.left hc c.batch
  have hq:((s.pick c).queue.map Ch.id).Perm (((s.ranked c).drop c.batch).map Ch.id):=by
    show (((s.queue.filter _).map Ch.up).map Ch.id).Perm _
    rw[List.map_map]
    exact hl.map Ch.id
  have hs:((s.pick c).segs.flatMap Sm.l).map Prod.fst=((s.ranked c).take c.batch).map Ch.id:=by
    show (([Sm.new (((s.ranked c).take c.batch).map Ch.cg)]).flatMap Sm.l).map Prod.fst=_
    simp[Sm.new,Ch.cg,Function.comp_def]
  have hperm:=h.perm
  rw[e,List.flatMap_nil,List.map_nil,List.append_nil] at hperm
  refine⟨h.nd,?_,λx hx=>?_,λx hx y hy=>?_,?_,h.mainI,h.main,h.num,h.jn⟩
  · show (s.outs.map Prod.fst++_).Perm s.ids
    rw[hs]
    refine(List.Perm.append_left _ ?_).trans hperm
    refine(hq.append_right _).trans ?_
    rw[<-List.map_append]
    refine(List.Perm.map Ch.id ?_).trans (hp.map Ch.id)
    refine List.perm_append_comm.trans ?_
    rw[List.take_append_drop]
  · obtain⟨y,hy,rfl⟩:=List.mem_map.1 hx
    exact h.eq y (List.mem_filter.1 hy).1
  · obtain rfl:=List.mem_singleton.1 hx
    obtain⟨z,hz,rfl⟩:=List.mem_map.1 hy
    exact h.eq z (hp.mem_iff.1 (List.mem_of_mem_take hz))
  · refine SegsEv.bare λy hy=>?_
    obtain rfl:=List.mem_singleton.1 hy
    exact Sm.new_bare _
theorem Ev.step {c:Cfg}{js:List Eo}{K:List Kn}{s s':Ts}(h:Ev js K s)(hI:s.Inv c)(hc:c.Ok)(hs:s.step c=some s'):Ev js K s'/\∃os,s'.outs=s.outs++os/\Goes c js K s.tip os s'.tip:=by
  unfold Ts.step at hs
  split at hs
  · rename_i e
    split at hs
    · cases hs
    · cases hs
      exact⟨h.pick hI hc e,[],(List.append_nil _).symm,rfl⟩
  · rename_i f m e
    have hf:=hI.sm f (by rw[e];exact List.mem_cons_self)
    obtain⟨y,l,el⟩:=List.exists_cons_of_ne_nil hf.ne
    have hseg:=h.segs
    have hperm:=h.perm
    rw[e] at hseg
    rw[e,List.flatMap_cons,List.map_append] at hperm
    have hle:=makes_le f.l s.tip
    have hmf:∀z∈f.l,Has K z:=h.es f (by rw[e];exact List.mem_cons_self)
    have hmm:∀x∈m,∀z∈x.l,Has K z:=λx hx=>h.es x (by rw[e];exact List.mem_cons_of_mem _ hx)
    split at hs
    · rename_i h0
      cases hs
      have hb:=hseg.2 (by rw[h0,el];simp)
      have ho:(s.conflict f m).outs=s.outs++[(y.1,3)]:=by show s.outs++(f.l.take 1).map _=_;rw[el];rfl
      have hsg:(s.conflict f m).segs=newIf l++m:=by show newIf (f.l.drop 1)++m=_;rw[el];rfl
      refine⟨⟨h.nd,?_,h.eq,λx hx z hz=>?_,?_,?_,h.main,h.num,h.jn⟩,[(y.1,3)],ho,y.2,hmf y (by rw[el];exact List.mem_cons_self),.inr (.inr (.inl ⟨rfl,makes_zero (l:=l) (by rw[<-el];exact h0),rfl⟩))⟩
      · rw[ho,hsg,List.flatMap_append,flat_newIf,List.map_append,List.map_append]
        rw[el] at hperm
        refine List.Perm.trans ?_ hperm
        show (s.outs.map Prod.fst++[y.1]++(s.queue.map Ch.id++(l.map Prod.fst++(m.flatMap Sm.l).map Prod.fst))).Perm (s.outs.map Prod.fst++(s.queue.map Ch.id++([y.1]++l.map Prod.fst++(m.flatMap Sm.l).map Prod.fst)))
        rw[List.append_assoc]
        refine List.Perm.append_left _ ?_
        rw[List.append_assoc [y.1],<-List.append_assoc,<-List.append_assoc (s.queue.map Ch.id)]
        exact List.perm_append_comm.append_right _
      · rw[hsg] at hx
        rcases List.mem_append.1 hx with hx|hx
        · obtain⟨rfl,_⟩:=mem_newIf hx
          exact hmf z (by rw[el];exact List.mem_cons_of_mem _ hz)
        · exact hmm x hx z hz
      · rw[hsg]
        refine SegsEv.bare λx hx=>?_
        rcases List.mem_append.1 hx with hx|hx
        · obtain⟨rfl,_⟩:=mem_newIf hx
          exact Sm.new_bare _
        · exact hb x (List.mem_cons_of_mem _ hx)
      · rw[ho,List.filter_append]
        show s.main.flatMap Prod.snd=_
        rw[h.mainI];simp
    split at hs
    · rename_i h0 h1
      cases hs
      have hb:=hseg.2 (by omega)
      refine⟨⟨h.nd,?_,h.eq,λx hx z hz=>?_,SegsEv.bare λx hx=>?_,h.mainI,h.main,h.num,h.jn⟩,[],(List.append_nil _).symm,rfl⟩
      · show (s.outs.map Prod.fst++(s.queue.map Ch.id++((f.l.take _++(f.l.drop _++m.flatMap Sm.l)).map Prod.fst))).Perm s.ids
        rw[<-List.append_assoc (f.l.take _),List.take_append_drop,List.map_append]
        exact hperm
      · rcases List.mem_cons.1 hx with rfl|hx
        · exact hmf z (List.mem_of_mem_take hz)
        rcases List.mem_cons.1 hx with rfl|hx
        · exact hmf z (List.mem_of_mem_drop hz)
        · exact hmm x hx z hz
      · rcases List.mem_cons.1 hx with rfl|hx
        · exact Sm.new_bare _
        rcases List.mem_cons.1 hx with rfl|hx
        · exact Sm.new_bare _
        · exact hb x (List.mem_cons_of_mem _ hx)
    rename_i h0 h1
    have hm:(makes s.tip f.l).2=f.l.length:=by omega
    obtain⟨hO,hR⟩:=hseg.1 hm
    split at hs
    · rename_i hby
      cases hs
      refine⟨⟨h.nd,?_,h.eq,hmm,hR,?_,h.main.snoc hf.ne hmf hm (hO.by_ hby),h.num,h.jn⟩,_,rfl,Goes.lands hmf hm⟩
      · show ((s.outs++f.l.map _).map Prod.fst++(s.queue.map Ch.id++(m.flatMap Sm.l).map Prod.fst)).Perm s.ids
        refine List.Perm.trans ?_ hperm
        rw[List.map_append,List.map_map,show (Prod.fst ∘ λx:Cg=>(x.1,1))=Prod.fst from rfl,List.append_assoc]
        refine List.Perm.append_left _ ?_
        rw[<-List.append_assoc,<-List.append_assoc]
        exact List.perm_append_comm.append_right _
      · show (s.main++[(f.by_,f.l.map Prod.fst)]).flatMap Prod.snd=((s.outs++f.l.map _).filter _).map Prod.fst
        rw[List.flatMap_append,List.filter_append,List.map_append,h.mainI]
        congr 1
        rw[List.filter_eq_self.2 (by intro a ha;obtain⟨z,_,rfl⟩:=List.mem_map.1 ha;rfl),List.map_map]
        simp[Function.comp_def]
    split at hs
    · rename_i hrt
      cases hs
      unfold Ts.blame
      split
      · rename_i h2
        refine⟨⟨h.nd,?_,h.eq,λx hx z hz=>?_,SegsEv.bare λx hx=>?_,h.mainI,h.main,h.num,h.jn⟩,[],(List.append_nil _).symm,rfl⟩
        · show (s.outs.map Prod.fst++(s.queue.map Ch.id++((f.l.take _++(f.l.drop _++(m.map Sm.renew).flatMap Sm.l)).map Prod.fst))).Perm s.ids
          rw[<-List.append_assoc (f.l.take _),List.take_append_drop,flat_renew,List.map_append]
          exact hperm
        · rcases List.mem_cons.1 hx with rfl|hx
          · exact hmf z (List.mem_of_mem_take hz)
          rcases List.mem_cons.1 hx with rfl|hx
          · exact hmf z (List.mem_of_mem_drop hz)
          · obtain⟨y,hy,e1,_⟩:=mem_renew hx
            exact hmm y hy z (e1▸hz)
        · rcases List.mem_cons.1 hx with rfl|hx
          · exact Sm.new_bare _
          rcases List.mem_cons.1 hx with rfl|hx
          · exact Sm.new_bare _
          · obtain⟨_,_,_,hb⟩:=mem_renew hx
            exact hb
      · rename_i h2
        have el1:f.l=[y]:=by
          rw[el] at h2 ⊢
          cases l with
          |nil=>rfl
          |cons _ _=>simp at h2
        have hm1:(makes s.tip [y]).2=1:=by rw[<-el1,hm,el1];rfl
        obtain⟨ha,hmk⟩:=makes_one hm1
        have ho:s.outs++(f.l.take 1).map (λx:Cg=>(x.1,2))=s.outs++[(y.1,2)]:=by rw[el1];rfl
        refine⟨⟨h.nd,?_,h.eq,λx hx z hz=>?_,SegsEv.bare λx hx=>?_,?_,h.main,h.num,h.jn⟩,[(y.1,2)],ho,y.2,hmf y (by rw[el];exact List.mem_cons_self),.inr (.inl ⟨rfl,ha,λT hT=>?_,rfl⟩)⟩
        · show ((s.outs++_).map Prod.fst++(s.queue.map Ch.id++((m.map Sm.renew).flatMap Sm.l).map Prod.fst)).Perm s.ids
          rw[ho,flat_renew]
          rw[el1] at hperm
          refine List.Perm.trans ?_ hperm
          rw[List.map_append,List.append_assoc]
          refine List.Perm.append_left _ ?_
          rw[<-List.append_assoc,<-List.append_assoc]
          exact List.perm_append_comm.append_right _
        · obtain⟨y,hy,e1,_⟩:=mem_renew hx
          exact hmm y hy z (e1▸hz)
        · obtain⟨_,_,_,hb⟩:=mem_renew hx
          exact hb
        · show s.main.flatMap Prod.snd=((s.outs++_).filter _).map Prod.fst
          rw[ho,List.filter_append,h.mainI];simp
        · rw[el1,hmk] at hO
          exact Nat.lt_of_lt_of_le hrt (hO.fails T y.1 hT (by unfold Sm.last;rw[el1];rfl))
    · cases hs
theorem Ev.run {c:Cfg}{js:List Eo}{K:List Kn}(hc:c.Ok):∀(n:Nat) {s:Ts},Ev js K s->s.Inv c->Ev js K (s.run c n)/\∃os,(s.run c n).outs=s.outs++os/\Goes c js K s.tip os (s.run c n).tip
  |0,s,h,_=>⟨h,[],(List.append_nil _).symm,rfl⟩
  |n+1,s,h,hI=>by
    cases hs:s.step c with
    |none=>rw[Ts.run_none hs];exact⟨h,[],(List.append_nil _).symm,rfl⟩
    |some s'=>
      have e2:s.run c (n+1)=s'.run c n:=by rw[Ts.run,hs]
      obtain⟨h1,o1,e1,g1⟩:=h.step hI hc hs
      obtain⟨h2,o2,e3,g2⟩:=Ev.run hc n h1 (hI.goes hc hs).1
      rw[e2]
      exact⟨h2,o1++o2,by rw[e3,e1,List.append_assoc],g1.append g2⟩
theorem begins_l {c:Cfg}{now:Nat}:∀(r:Nat) (l:List Sm) (g:ByteArray->ByteArray) (b:Nat),(begins c now r l g b).1.map Sm.l=l.map Sm.l
  |0,l,g,b=>by rw[begins]
  |_+1,[],g,b=>by rw[begins]
  |r+1,x::l,g,b=>by
    rw[begins]
    split
    · rfl
    split
    · rw[List.map_cons,List.map_cons,begins_l r]
    · rw[List.map_cons,List.map_cons,begins_l r]
theorem begins_ge {c:Cfg}{now:Nat}:∀(r:Nat) (l:List Sm) (g:ByteArray->ByteArray) (b:Nat),b<=(begins c now r l g b).2
  |0,l,g,b=>by rw[begins];exact Nat.le_refl _
  |_+1,[],g,b=>by rw[begins];exact Nat.le_refl _
  |r+1,x::l,g,b=>by
    rw[begins]
    split
    · exact Nat.le_refl _
    split
    · exact Nat.le_trans (Nat.le_succ _) (begins_ge r l _ (b+1))
    · exact begins_ge r l _ b
theorem SegsEv.begins {c:Cfg}{now:Nat}{js:List Eo}:∀(r:Nat) {l:List Sm} {g:ByteArray->ByteArray} {b:Nat},SegsEv js g l->(∀e∈js,e.num<=b)->SegsEv js g (begins c now r l g b).1
  |0,l,g,b,h,_=>by rw[Go.Proofs.YtgamgomepdfgdaaGreat.begins];exact h
  |_+1,[],g,b,_,_=>by rw[Go.Proofs.YtgamgomepdfgdaaGreat.begins];trivial
  |r+1,x::l,g,b,h,hn=>by
    rw[Go.Proofs.YtgamgomepdfgdaaGreat.begins]
    split
    · exact h
    · rename_i h0
      have hle:=makes_le x.l g
      have hm:(makes g x.l).2=x.l.length:=by omega
      obtain⟨hO,hR⟩:=h.1 hm
      split
      · refine⟨λ_=>⟨⟨λj e=>?_,hO.by_,hO.fails⟩,SegsEv.begins r hR λe he=>Nat.le_succ_of_le (hn e he)⟩,λhne=>absurd hm hne⟩
        cases e
        exact⟨rfl,.inr λe he=>by have:=hn e he;show e.num≠b+1;omega⟩
      · exact⟨λ_=>⟨hO,SegsEv.begins r hR hn⟩,λhne=>absurd hm hne⟩
theorem flat_of_l {a b:List Sm}(h:a.map Sm.l=b.map Sm.l):a.flatMap Sm.l=b.flatMap Sm.l:=by rw[List.flatMap_def,List.flatMap_def,h]
theorem mem_of_l {a b:List Sm}(h:a.map Sm.l=b.map Sm.l){x:Sm}(hx:x∈a):∃y∈b,y.l=x.l:=by
  have:x.l∈b.map Sm.l:=h▸List.mem_map_of_mem hx
  obtain⟨y,hy,e⟩:=List.mem_map.1 this
  exact⟨y,hy,e⟩
theorem Ev.segs' {js js':List Eo}{K:List Kn}{s s':Ts}(h:Ev js K s)(e1:s'.ids=s.ids)(e2:s'.outs=s.outs)(e3:s'.queue=s.queue)(e4:s'.segs.map Sm.l=s.segs.map Sm.l)(e5:s'.main=s.main)(e6:s'.tip=s.tip)(hs:SegsEv js' s.tip s'.segs)(hm:MainEv js' K (λ_=>⟨#[]⟩) s.main s.tip)(hn:∀e∈js',e.num<=s'.begun)(hj:(js'.map Eo.num).Nodup):Ev js' K s':=by
  refine⟨e1▸h.nd,?_,e3▸h.eq,λx hx z hz=>?_,?_,?_,?_,hn,hj⟩
  · rw[e1,e2,e3,flat_of_l e4];exact h.perm
  · obtain⟨y,hy,e⟩:=mem_of_l e4 hx
    exact h.es y hy z (e▸hz)
  · rw[e6];exact hs
  · rw[e5,e2];exact h.mainI
  · rw[e5,e6];exact hm
theorem Ev.begin {c:Cfg}{js:List Eo}{K:List Kn}{s:Ts}(h:Ev js K s):Ev js K (s.begin c):=
  h.segs' rfl rfl rfl (begins_l ..) rfl rfl (h.segs.begins _ h.num) h.main (λe he=>Nat.le_trans (h.num e he) (begins_ge ..)) h.jn
theorem Ev.pump {c:Cfg}{js:List Eo}{K:List Kn}{s:Ts}(h:Ev js K s)(hI:s.Inv c)(hc:c.Ok):Ev js K (s.pump c)/\∃os,(s.pump c).outs=s.outs++os/\Goes c js K s.tip os (s.pump c).tip:=by
  obtain⟨h1,os,e,g⟩:=Ev.run hc s.mu h hI
  exact⟨h1.begin,os,e,g⟩
def setHow (D:Nat->Bool)(h:Nat)(js:List Eo):List Eo:=js.map λe=>if D e.num then {e with how:=h} else e
def endD (D:Nat->Bool)(h:Nat)(x:Sm):Sm:=match x.job with
  |some j=>if D j.num then x.ends (h==1) j.num else x
  |none=>x
theorem ends_l (x:Sm)(p:Bool)(n:Nat):(x.ends p n).l=x.l:=by unfold Sm.ends;split<;>rfl
theorem endD_l (D:Nat->Bool)(h:Nat)(x:Sm):(endD D h x).l=x.l:=by
  unfold endD
  split
  · split
    · exact ends_l _ _ _
    · rfl
  · rfl
theorem SegsEv.one {js:List Eo}:∀{l:List Sm} {g:ByteArray->ByteArray},SegsEv js g l->∀x∈l,¬x.bare->∃t,One js x t
  |y::m,g,h,x,hx,hb=>by
    by_cases hm:(makes g y.l).2=y.l.length
    · obtain⟨hO,hR⟩:=h.1 hm
      rcases List.mem_cons.1 hx with rfl|hx
      · exact⟨_,hO⟩
      · exact SegsEv.one hR x hx hb
    · exact absurd (h.2 hm x hx) hb
theorem num_inj {js:List Eo}(h:(js.map Eo.num).Nodup){a b:Eo}(ha:a∈js)(hb:b∈js)(e:a.num=b.num):a=b:=by
  induction js with
  |nil=>cases ha
  |cons x l ih=>
    rw[List.map_cons,List.nodup_cons] at h
    rcases List.mem_cons.1 ha with h1|h1
    · rcases List.mem_cons.1 hb with h2|h2
      · rw[h1,h2]
      · exact absurd (List.mem_map.2 ⟨b,h2,by rw[<-e,h1]⟩) h.1
    · rcases List.mem_cons.1 hb with h2|h2
      · exact absurd (List.mem_map.2 ⟨a,h1,by rw[e,h2]⟩) h.1
      · exact ih h.2 h1 h2
def NotedJ (js:List Eo)(l:List Sm):Prop:=∀x∈l,∀j,x.job=some j->∃e∈js,e.num=j.num
theorem One.noted {js:List Eo}{x:Sm}{t:ByteArray->ByteArray}{j:Jb}(h:One js x t)(hj:x.job=some j)(hn:∃e∈js,e.num=j.num):j.files=t/\∃e∈js,e.num=j.num/\e.how=0/\Lists e.tree t/\e.ids.getLast? =x.last:=by
  obtain⟨h1,h2⟩:=h.job j hj
  refine⟨h1,h2.elim id λh2=>?_⟩
  obtain⟨e,he,hn⟩:=hn
  exact absurd hn (h2 e he)
theorem how_zero {js:List Eo}{l:List Sm}{g:ByteArray->ByteArray}(h:SegsEv js g l)(hj:(js.map Eo.num).Nodup)(hn:NotedJ js l){x:Sm}(hx:x∈l){j:Jb}(hxj:x.job=some j){e:Eo}(he:e∈js)(hen:e.num=j.num):e.how=0:=by
  obtain⟨t,hO⟩:=h.one x hx (λhb=>by rw[hb.1] at hxj;cases hxj)
  obtain⟨_,e0,h0,h1,h2,_⟩:=hO.noted hxj (hn x hx j hxj)
  rw[num_inj hj he h0 (hen.trans h1.symm)];exact h2
theorem countP_more {α:Type}{p q:α->Bool}:∀{l:List α},(∀x∈l,p x=true->q x=true)->(∃x∈l,p x=false/\q x=true)->l.countP p+1<=l.countP q
  |[],_,⟨x,hx,_⟩=>by cases hx
  |y::l,h,⟨x,hx,h1,h2⟩=>by
    rw[List.countP_cons,List.countP_cons]
    have hm:l.countP p<=l.countP q:=List.countP_mono_left λz hz=>h z (List.mem_cons_of_mem _ hz)
    rcases List.mem_cons.1 hx with rfl|hx
    · rw[h1,h2];simp;omega
    · have:=countP_more (λz hz=>h z (List.mem_cons_of_mem _ hz)) ⟨x,hx,h1,h2⟩
      have hy:=h y List.mem_cons_self
      cases hp:p y with
      |false=>simp;omega
      |true=>rw[hy hp];simp;omega
theorem setHow_stays {D:Nat->Bool}{h:Nat}{js:List Eo}{e:Eo}(he:e∈js)(hd:D e.num=false):e∈setHow D h js:=List.mem_map.2 ⟨e,he,by rw[hd];rfl⟩
theorem setHow_hit {D:Nat->Bool}{h:Nat}{js:List Eo}{e:Eo}(he:e∈js)(hd:D e.num=true):{e with how:=h}∈setHow D h js:=List.mem_map.2 ⟨e,he,by rw[hd];rfl⟩
theorem setHow_nums (D:Nat->Bool)(h:Nat)(js:List Eo):(setHow D h js).map Eo.num=js.map Eo.num:=by
  unfold setHow
  rw[List.map_map]
  refine List.map_congr_left λe _=>?_
  show (if D e.num then {e with how:=h} else e).num=_
  split<;>rfl
theorem failN_mono {D:Nat->Bool}{h:Nat}{js:List Eo}(h0:∀e∈js,D e.num=true->e.how=0)(id:Nat)(T:List Fl):failN js id T<=failN (setHow D h js) id T:=by
  unfold failN setHow
  rw[List.countP_map]
  refine List.countP_mono_left λe he hp=>?_
  have:D e.num=false:=by
    cases hd:D e.num with
    |false=>rfl
    |true=>
      have:=h0 e he hd
      unfold failP at hp
      rw[this] at hp
      simp at hp
  show failP id T (if D e.num then _ else e)=true
  rw[this];exact hp
theorem failN_more {D:Nat->Bool}{js:List Eo}(h0:∀e∈js,D e.num=true->e.how=0){e:Eo}(he:e∈js)(hd:D e.num=true){id:Nat}{T:List Fl}(ha:alikeL e.tree T=true)(hl:e.ids.getLast? =some id):failN js id T+1<=failN (setHow D 2 js) id T:=by
  unfold failN setHow
  rw[List.countP_map]
  refine countP_more (λe he hp=>?_) ⟨e,he,?_,?_⟩
  · have:D e.num=false:=by
      cases hd:D e.num with
      |false=>rfl
      |true=>
        have:=h0 e he hd
        unfold failP at hp
        rw[this] at hp
        simp at hp
    show failP id T (if D e.num then _ else e)=true
    rw[this];exact hp
  · unfold failP;rw[h0 e he hd];rfl
  · show failP id T (if D e.num then _ else e)=true
    rw[hd]
    show (2==2&&alikeL e.tree T&&e.ids.getLast? ==some id)=true
    rw[ha,hl];simp
theorem One.ends {D:Nat->Bool}{h:Nat}{js:List Eo}{x:Sm}{t:ByteArray->ByteArray}(hO:One js x t)(h0:∀e∈js,D e.num=true->e.how=0)(hn:∀j,x.job=some j->∃e∈js,e.num=j.num)(hh:h=1\/h=2):One (setHow D h js) (endD D h x) t:=by
  have hby:x.by_≠0->∃e∈setHow D h js,e.num=x.by_/\e.how=1/\Lists e.tree t:=λhb=>by
    obtain⟨e,he,h1,h2,h3⟩:=hO.by_ hb
    refine⟨e,setHow_stays he ?_,h1,h2,h3⟩
    cases hd:D e.num with
    |false=>rfl
    |true=>rw[h0 e he hd] at h2;cases h2
  have hfl:∀T id,Lists T t->x.last=some id->x.fails<=failN (setHow D h js) id T:=λT id hT hl=>Nat.le_trans (hO.fails T id hT hl) (failN_mono h0 id T)
  unfold endD
  split
  · rename_i j hj
    obtain⟨h1,e,he,h2,h3,h4,h5⟩:=hO.noted hj (hn j hj)
    split
    · rename_i hd
      have hd':D e.num=true:=by rw[h2];exact hd
      rcases hh with rfl|rfl
      · exact⟨λj hj=>(by cases hj),λ_=>⟨_,setHow_hit he hd',h2,rfl,h4⟩,hfl⟩
      · exact⟨λj hj=>(by cases hj),hby,λT id hT hl=>Nat.le_trans (Nat.add_le_add_right (hO.fails T id hT hl) 1) (failN_more h0 he hd' (h4.alike hT) (h5.trans hl))⟩
    · rename_i hd
      refine⟨λj' hj'=>?_,hby,hfl⟩
      rw[hj] at hj'
      cases hj'
      exact⟨h1,.inl ⟨e,setHow_stays he (by rw[h2];simpa using hd),h2,h3,h4,h5⟩⟩
  · rename_i hj
    exact⟨λj' hj'=>(by rw[hj] at hj';cases hj'),hby,hfl⟩
theorem endD_bare {D:Nat->Bool}{h:Nat}{x:Sm}(hb:x.bare):(endD D h x).bare:=by
  unfold endD;rw[hb.1];exact hb
theorem SegsEv.ends {D:Nat->Bool}{h:Nat}{js:List Eo}(h0:∀e∈js,D e.num=true->e.how=0)(hh:h=1\/h=2):∀{l:List Sm} {g:ByteArray->ByteArray},SegsEv js g l->NotedJ js l->SegsEv (setHow D h js) g (l.map (endD D h))
  |[],_,_,_=>trivial
  |x::m,g,hs,hn=>by
    show (_->_)/\(_->_)
    rw[endD_l]
    refine⟨λhm=>?_,λhm y hy=>?_⟩
    · obtain⟨hO,hR⟩:=hs.1 hm
      exact⟨hO.ends h0 (hn x List.mem_cons_self) hh,SegsEv.ends h0 hh hR λy hy=>hn y (List.mem_cons_of_mem _ hy)⟩
    · rw[<-List.map_cons] at hy
      obtain⟨z,hz,rfl⟩:=List.mem_map.1 hy
      exact endD_bare (hs.2 hm z hz)
theorem MainEv.mono {js js':List Eo}{K K':List Kn}(hj:∀e∈js,e.how=1->e∈js')(hk:∀y,Has K y->Has K' y):∀{m:List (Nat×List Nat)} {g g':ByteArray->ByteArray},MainEv js K g m g'->MainEv js' K' g m g'
  |[],_,_,h=>h
  |_::_,_,_,⟨l,a,b,d,e,⟨x,hx,h1,h2,h3⟩,h⟩=>⟨l,a,b,λz hz=>hk z (d z hz),e,⟨x,hj x hx h2,h1,h2,h3⟩,MainEv.mono hj hk h⟩
theorem Goes.mono {c:Cfg}{js:List Eo}{K K':List Kn}(hk:∀y,Has K y->Has K' y):∀{os:List (Nat×Nat)} {g g':ByteArray->ByteArray},Goes c js K g os g'->Goes c js K' g os g'
  |[],_,_,h=>h
  |_::_,_,_,⟨es,hh,h⟩=>⟨es,hk _ hh,h.imp (λ⟨a,b,d⟩=>⟨a,b,d.mono hk⟩) λh=>h.imp (λ⟨a,b,e,d⟩=>⟨a,b,e,d.mono hk⟩) λh=>h.imp (λ⟨a,b,d⟩=>⟨a,b,d.mono hk⟩) λ⟨a,d⟩=>⟨a,d.mono hk⟩⟩
theorem Ev.ends {D:Nat->Bool}{h:Nat}{js:List Eo}{K:List Kn}{s s':Ts}(hE:Ev js K s)(hn:NotedJ js s.segs)(hD:∀n,D n=true->∃x∈s.segs,∃j,x.job=some j/\j.num=n)(hh:h=1\/h=2)(e1:s'.ids=s.ids)(e2:s'.outs=s.outs)(e3:s'.queue=s.queue)(e4:s'.segs=s.segs.map (endD D h))(e5:s'.main=s.main)(e6:s'.tip=s.tip)(e7:s'.begun=s.begun):Ev (setHow D h js) K s':=by
  have h0:∀e∈js,D e.num=true->e.how=0:=λe he hd=>by
    obtain⟨x,hx,j,hj,ej⟩:=hD _ hd
    exact how_zero hE.segs hE.jn hn hx hj he ej.symm
  refine hE.segs' e1 e2 e3 ?_ e5 e6 (e4▸hE.segs.ends h0 hh hn) (hE.main.mono (λe he h1=>setHow_stays he ?_) λ_ h=>h) (λe he=>?_) ?_
  · rw[e4,List.map_map]
    exact List.map_congr_left λx _=>endD_l D h x
  · cases hd:D e.num with
    |false=>rfl
    |true=>rw[h0 e he hd] at h1;cases h1
  · rw[e7]
    obtain⟨e',he',rfl⟩:=List.mem_map.1 he
    have:(if D e'.num then {e' with how:=h} else e').num=e'.num:=by split<;>rfl
    rw[this];exact hE.num e' he'
  · rw[setHow_nums];exact hE.jn
theorem NotedJ.ends {D:Nat->Bool}{h:Nat}{js:List Eo}{l:List Sm}(hn:NotedJ js l):NotedJ (setHow D h js) (l.map (endD D h)):=λx hx j hj=>by
  obtain⟨y,hy,rfl⟩:=List.mem_map.1 hx
  have:y.job=some j:=by
    unfold endD at hj
    split at hj
    · rename_i j' hj'
      split at hj
      · unfold Sm.ends at hj
        split at hj<;>cases hj
      · exact hj
    · exact hj
  obtain⟨e,he,en⟩:=hn y hy j this
  refine⟨_,List.mem_map.2 ⟨e,he,rfl⟩,?_⟩
  split<;>exact en
theorem One.seen {js new:List Eo}{x:Sm}{t:ByteArray->ByteArray}(h:One js x t)(hn:∀e∈new,∀j,x.job=some j->e.num=j.num->e.how=0/\Lists e.tree j.files/\e.ids.getLast? =x.last):One (js++new) x t:=by
  refine⟨λj hj=>?_,λhb=>?_,λT id hT hl=>Nat.le_trans (h.fails T id hT hl) ?_⟩
  · obtain⟨h1,h2⟩:=h.job j hj
    refine⟨h1,?_⟩
    rcases h2 with ⟨e,he,h2⟩|h2
    · exact .inl ⟨e,List.mem_append_left _ he,h2⟩
    · by_cases hx:∃e∈new,e.num=j.num
      · obtain⟨e,he,en⟩:=hx
        obtain⟨a,b,d⟩:=hn e he j hj en
        exact .inl ⟨e,List.mem_append_right _ he,en,a,h1▸b,d⟩
      · refine .inr λe he en=>?_
        rcases List.mem_append.1 he with he|he
        · exact h2 e he en
        · exact hx ⟨e,he,en⟩
  · obtain⟨e,he,h1⟩:=h.by_ hb
    exact⟨e,List.mem_append_left _ he,h1⟩
  · unfold failN
    rw[List.countP_append];omega
theorem SegsEv.seen {js new:List Eo}:∀{l:List Sm} {g:ByteArray->ByteArray},SegsEv js g l->(∀e∈new,∀x∈l,∀j,x.job=some j->e.num=j.num->e.how=0/\Lists e.tree j.files/\e.ids.getLast? =x.last)->SegsEv (js++new) g l
  |[],_,_,_=>trivial
  |x::m,g,hs,hn=>⟨λhm=>by
      obtain⟨hO,hR⟩:=hs.1 hm
      exact⟨hO.seen λe he=>hn e he x List.mem_cons_self,hR.seen λe he y hy=>hn e he y (List.mem_cons_of_mem _ hy)⟩,hs.2⟩
theorem Ev.seen {js new:List Eo}{K:List Kn}{s:Ts}(h:Ev js K s)(hn:∀e∈new,∀x∈s.segs,∀j,x.job=some j->e.num=j.num->e.how=0/\Lists e.tree j.files/\e.ids.getLast? =x.last)(hb:∀e∈new,e.num<=s.begun)(hj:((js++new).map Eo.num).Nodup):Ev (js++new) K s:=
  h.segs' rfl rfl rfl rfl rfl rfl (h.segs.seen hn) (h.main.mono (λ_ he _=>List.mem_append_left _ he) λ_ h=>h) (λe he=>(List.mem_append.1 he).elim (h.num e) (hb e)) hj
theorem Ev.sub {js:List Eo}{K:List Kn}{s:Ts}{id lane:Nat}{es:List Ed}(h:Ev js K s)(hid:id∉s.ids):Ev js (K++[⟨id,0,es⟩]) {s with ids:=s.ids++[id],queue:=s.queue++[⟨id,lane,0,s.ids.length,es⟩]}:=by
  have hk:∀y,Has K y->Has (K++[⟨id,0,es⟩]) y:=λy ⟨k,hk,h⟩=>⟨k,List.mem_append_left _ hk,h⟩
  refine⟨?_,?_,λx hx=>?_,λx hx y hy=>hk y (h.es x hx y hy),h.segs,h.mainI,h.main.mono (λ_ he _=>he) hk,h.num,h.jn⟩
  · show (s.ids++[id]).Nodup
    rw[List.nodup_append]
    exact⟨h.nd,by simp,λa ha b hb e=>hid (by rw[List.mem_singleton.1 hb] at e;exact e▸ha)⟩
  · show (s.outs.map Prod.fst++((s.queue++[_]).map Ch.id++_)).Perm (s.ids++[id])
    rw[List.map_append,List.append_assoc]
    refine List.Perm.trans ?_ (h.perm.append_right [id])
    rw[List.append_assoc,List.append_assoc]
    exact List.Perm.append_left _ (List.Perm.append_left _ List.perm_append_comm)
  · rcases List.mem_append.1 hx with hx|hx
    · exact hk _ (h.eq x hx)
    · obtain rfl:=List.mem_singleton.1 hx
      exact⟨_,List.mem_append_right _ List.mem_cons_self,rfl,rfl⟩
structure Pe where
  known:List Kn
  jobs:List Eo
  tip:List Fl
  landed:List Nat
  number:Nat
  now:Nat
def kindOf:List (Nat×Nat)->Nat->Nat
  |[],_=>0
  |o::l,id=>if o.1=id then o.2 else kindOf l id
theorem kindOf_not:∀{l:List (Nat×Nat)} {id:Nat},id∉l.map Prod.fst->kindOf l id=0
  |[],_,_=>rfl
  |o::l,id,h=>by
    rw[List.map_cons,List.mem_cons,not_or] at h
    unfold kindOf
    rw[if_neg λe=>h.1 e.symm]
    exact kindOf_not h.2
theorem kindOf_snoc:∀(l:List (Nat×Nat)) (o:Nat×Nat) (id:Nat),o.1∉l.map Prod.fst->kindOf (l++[o]) id=if o.1=id then o.2 else kindOf l id
  |[],_,_,_=>rfl
  |x::l,o,id,h=>by
    rw[List.map_cons,List.mem_cons,not_or] at h
    rw[List.cons_append]
    unfold kindOf
    rw[kindOf_snoc l o id h.2]
    by_cases h1:x.1=id
    · rw[if_pos h1,if_pos h1,if_neg λe=>h.1 (e.trans h1.symm)]
    · rw[if_neg h1,if_neg h1]
theorem kindOf_mem:∀{l:List (Nat×Nat)} {o:Nat×Nat},(l.map Prod.fst).Nodup->o∈l->kindOf l o.1=o.2
  |x::l,o,hn,h=>by
    rw[List.map_cons,List.nodup_cons] at hn
    unfold kindOf
    rcases List.mem_cons.1 h with rfl|h
    · rw[if_pos rfl]
    · rw[if_neg (λe:x.1=o.1=>hn.1 (e▸List.mem_map_of_mem h))]
      exact kindOf_mem hn.2 h
def Kn.put (k:Kn)(n:Nat):Kn:={k with kind:=n}
def Pe.outc (p:Pe)(i:Nat)(o:Nat×Nat):Pe:=
  {p with known:=p.known.modify i λk=>k.put o.2,number:=p.number+1,tip:=if o.2=1 then withL p.tip (p.known[i]?.map Kn.es).toList.flatten else p.tip,landed:=if o.2=1 then p.landed++[o.1] else p.landed}
structure Pos (c:Cfg)(p:Pe)(s:Ts):Prop where
  ids:p.known.map Kn.id=s.ids
  num:p.number=s.acked
  kinds:∀k∈p.known,k.kind=kindOf (s.outs.take s.acked) k.id
  landed:p.landed=((s.outs.take s.acked).filter λo=>o.2==1).map Prod.fst
  tip:∃t,Lists p.tip t/\Goes c p.jobs p.known t (s.outs.drop s.acked) s.tip
theorem Ev.outs_nd {js:List Eo}{K:List Kn}{s:Ts}(h:Ev js K s):(s.outs.map Prod.fst).Nodup:=(List.nodup_append.1 ((h.perm.nodup_iff).2 h.nd)).1
theorem has_put {K:List Kn}{i n:Nat}{y:Cg}(h:Has K y):Has (K.modify i λk=>k.put n) y:=by
  obtain⟨k,hk,h1,h2⟩:=h
  obtain⟨j,hj,rfl⟩:=List.mem_iff_getElem.1 hk
  refine⟨(K.modify i λk=>k.put n)[j]'(by rw[List.length_modify];exact hj),List.getElem_mem _,?_⟩
  rw[List.getElem_modify]
  split<;>exact⟨h1,h2⟩
theorem ids_put (K:List Kn)(i n:Nat):(K.modify i λk=>k.put n).map Kn.id=K.map Kn.id:=by
  refine List.ext_getElem (by simp) λj h1 h2=>?_
  simp only[List.getElem_map,List.getElem_modify]
  split<;>rfl
theorem Ev.known {js:List Eo}{K K':List Kn}{s:Ts}(h:Ev js K s)(hk:∀y,Has K y->Has K' y)(n:Nat):Ev js K' {s with acked:=n}:=
  ⟨h.nd,h.perm,λx hx=>hk _ (h.eq x hx),λx hx y hy=>hk y (h.es x hx y hy),h.segs,h.mainI,h.main.mono (λ_ he _=>he) hk,h.num,h.jn⟩
structure NextO (c:Cfg)(p:Pe)(o:Nat×Nat)(i:Nat)(es:List Ed):Prop where
  at_:∃k,p.known[i]? =some k/\k.id=o.1/\k.kind=0/\k.es=es
  kind:1<=o.2/\o.2<=4
  lands:o.2=1->onL p.tip es=true
  fails:o.2=2->onL p.tip es=true/\c.retries<failN p.jobs o.1 (withL p.tip es)
  conf:o.2=3->onL p.tip es=false
theorem Pos.next {c:Cfg}{p:Pe}{s:Ts}(hE:Ev p.jobs p.known s)(h:Pos c p s)(ha:s.acked<s.outs.length):
    ∃i es,NextO c p s.outs[s.acked] i es/\Pos c (p.outc i s.outs[s.acked]) {s with acked:=s.acked+1}/\Ev (p.outc i s.outs[s.acked]).jobs (p.outc i s.outs[s.acked]).known {s with acked:=s.acked+1}:=by
  obtain⟨t,hl,hg⟩:=h.tip
  rw[List.drop_eq_getElem_cons ha] at hg
  generalize ho:s.outs[s.acked]=o at hg ⊢
  have hta:s.outs.take (s.acked+1)=s.outs.take s.acked++[o]:=by rw[List.take_succ_eq_append_getElem ha,ho]
  have hno:o.1∉(s.outs.take s.acked).map Prod.fst:=by
    have hn:=hE.outs_nd
    have e:s.outs.map Prod.fst=(s.outs.take s.acked).map Prod.fst++(o.1::(s.outs.drop (s.acked+1)).map Prod.fst):=by
      rw[<-List.map_cons,<-ho,<-List.drop_eq_getElem_cons ha,<-List.map_append,List.take_append_drop]
    rw[e,List.nodup_append] at hn
    exact λhm=>hn.2.2 _ hm o.1 List.mem_cons_self rfl
  obtain⟨es,⟨k,hk,hk1,hk2⟩,hg⟩:=hg
  obtain⟨i,hi,rfl⟩:=List.mem_iff_getElem.1 hk
  have hk1:(p.known[i]).id=o.1:=hk1
  have hk2:(p.known[i]).es=es:=hk2
  have hki:p.known[i]? =some p.known[i]:=List.getElem?_eq_getElem hi
  have hnd:(p.known.map Kn.id).Nodup:=by rw[h.ids];exact hE.nd
  have hkind:∀k'∈p.known.modify i (λk=>k.put o.2),k'.kind=kindOf (s.outs.take (s.acked+1)) k'.id:=λk' hk'=>by
    obtain⟨j,hj,rfl⟩:=List.mem_iff_getElem.1 hk'
    rw[List.length_modify] at hj
    rw[hta,kindOf_snoc _ _ _ hno,List.getElem_modify]
    by_cases hij:i=j
    · subst hij
      rw[if_pos rfl]
      show o.2=if o.1=(p.known[i]).id then _ else _
      rw[if_pos hk1.symm]
    · rw[if_neg hij,if_neg]
      · exact h.kinds _ (List.getElem_mem _)
      · intro e
        have:=(List.getElem_inj (h₀:=by simpa using hi) (h₁:=by simpa using hj) hnd).1 (by simp only[List.getElem_map];exact hk1.trans e)
        exact hij this
  have hEs:(Option.map Kn.es (some p.known[i])).toList.flatten=es:=by rw[<-hk2];simp
  have hfil:((s.outs.take (s.acked+1)).filter λo=>o.2==1).map Prod.fst=if o.2=1 then p.landed++[o.1] else p.landed:=by
    rw[hta,List.filter_append,List.map_append,<-h.landed]
    by_cases h1:o.2=1
    · simp[h1]
    · simp[h1]
  have hH:∀y,Has p.known y->Has (p.outc i o).known y:=λy hy=>has_put hy
  have hEv:Ev (p.outc i o).jobs (p.outc i o).known {s with acked:=s.acked+1}:=hE.known hH _
  have hon:=hl.on es
  have hk0:(p.known[i]).kind=0:=by rw[h.kinds _ (List.getElem_mem _),hk1];exact kindOf_not hno
  have hat:∃k,p.known[i]? =some k/\k.id=o.1/\k.kind=0/\k.es=es:=⟨_,hki,hk1,hk0,hk2⟩
  have hids:(p.outc i o).known.map Kn.id=s.ids:=(ids_put _ _ _).trans h.ids
  have hnum:(p.outc i o).number=s.acked+1:=by show p.number+1=_;rw[h.num]
  rcases hg with ⟨h1,h2,h3⟩|⟨h1,h2,h4,h3⟩|⟨h1,h2,h3⟩|⟨h1,h3⟩
  · refine⟨i,es,⟨hat,by omega,λ_=>hon.trans h2,λe=>by omega,λe=>by omega⟩,⟨hids,hnum,hkind,hfil.symm,edited t es,?_,h3.mono hH⟩,hEv⟩
    show Lists (if o.2=1 then _ else _) _
    rw[if_pos h1,hki,hEs];exact hl.made es
  · refine⟨i,es,⟨hat,by omega,λe=>by omega,λ_=>⟨hon.trans h2,h4 _ (hl.made es)⟩,λe=>by omega⟩,⟨hids,hnum,hkind,hfil.symm,t,?_,h3.mono hH⟩,hEv⟩
    show Lists (if o.2=1 then _ else _) _
    rw[if_neg (by omega)];exact hl
  · refine⟨i,es,⟨hat,by omega,λe=>by omega,λe=>by omega,λ_=>hon.trans h2⟩,⟨hids,hnum,hkind,hfil.symm,t,?_,h3.mono hH⟩,hEv⟩
    show Lists (if o.2=1 then _ else _) _
    rw[if_neg (by omega)];exact hl
  · refine⟨i,es,⟨hat,by omega,λe=>by omega,λe=>by omega,λe=>by omega⟩,⟨hids,hnum,hkind,hfil.symm,t,?_,h3.mono hH⟩,hEv⟩
    show Lists (if o.2=1 then _ else _) _
    rw[if_neg (by omega)];exact hl
theorem Pos.done {c:Cfg}{p:Pe}{s:Ts}(h:Pos c p s)(hE:Ev p.jobs p.known s)(ha:s.acked=s.outs.length):Lists p.tip s.tip/\p.landed=s.main.flatMap Prod.snd:=by
  obtain⟨t,hl,hg⟩:=h.tip
  rw[ha,List.drop_length] at hg
  cases hg
  refine⟨hl,?_⟩
  rw[h.landed,ha,List.take_length,hE.mainI]
theorem Pos.more {c:Cfg}{p:Pe}{s s':Ts}{os:List (Nat×Nat)}(h:Pos c p s)(ha:s.acked=s.outs.length)(e1:s'.ids=s.ids)(e2:s'.acked=s.acked)(e3:s'.outs=s.outs++os)(hg:Goes c p.jobs p.known s.tip os s'.tip):Pos c p s':=by
  obtain⟨t,hl,hg0⟩:=h.tip
  rw[ha,List.drop_length] at hg0
  cases hg0
  have ht:s'.outs.take s'.acked=s.outs.take s.acked:=by rw[e2,e3,ha,List.take_append_of_le_length (Nat.le_refl _)]
  refine⟨h.ids.trans e1.symm,h.num.trans e2.symm,λk hk=>by rw[ht];exact h.kinds k hk,by rw[ht];exact h.landed,s.tip,hl,?_⟩
  rw[e2,e3,ha,List.drop_append_of_le_length (Nat.le_refl _),List.drop_length,List.nil_append]
  exact hg
theorem answer_endD (s:Ts)(num:Nat)(pass:Bool):(s.answer num pass).segs=s.segs.map (endD (λn=>n==num) (if pass then 1 else 2)):=by
  refine List.map_congr_left λx _=>?_
  unfold Sm.runs endD
  cases x.job with
  |none=>rfl
  |some j=>
    by_cases e:j.num=num
    · subst e
      cases pass<;>simp
    · simp[e]
theorem job_inj {l:List Sm}(h:l.Pairwise JobsNe){x y:Sm}(hx:x∈l)(hy:y∈l){j k:Jb}(hj:x.job=some j)(hk:y.job=some k)(e:j.num=k.num):x=y:=by
  induction l with
  |nil=>cases hx
  |cons z l ih=>
    rw[List.pairwise_cons] at h
    rcases List.mem_cons.1 hx with h1|h1
    · rcases List.mem_cons.1 hy with h2|h2
      · rw[h1,h2]
      · exact absurd e (h.1 y h2 j k (h1▸hj) hk)
    · rcases List.mem_cons.1 hy with h2|h2
      · exact absurd e.symm (h.1 x h1 k j (h2▸hk) hj)
      · exact ih h.2 h1 h2
theorem FilesAt.form {w:World}{v:Value}{l:List Fl}(h:FilesAt w v l):∃a cap,v=.slice a l.length cap:=by
  rcases h with ⟨rfl,a,c,rfl⟩|⟨b,off,cap,rfl,_⟩
  · exact⟨a,c,rfl⟩
  · exact⟨_,cap,rfl⟩
theorem alikeL_miss {a b:List Fl}{k:Nat}(hk:k<a.length)(h:((standsL b a[k].1).toList==a[k].2.toList)=false):alikeL a b=false:=by
  unfold alikeL
  rw[Bool.and_eq_false_iff]
  refine .inr ?_
  rw[List.all_eq_false]
  exact⟨a[k],List.getElem_mem hk,by rw[h];exact Bool.false_ne_true⟩
theorem alikeL_len {a b:List Fl}(h:a.length≠b.length):alikeL a b=false:=by
  unfold alikeL
  rw[beq_false_of_ne h];rfl
theorem alikeL_hit {a b:List Fl}(h:a.length=b.length)(hall:∀i (h:i<a.length),((standsL b a[i].1).toList==a[i].2.toList)=true):alikeL a b=true:=by
  unfold alikeL
  rw[Bool.and_eq_true,beq_iff_eq,List.all_eq_true]
  refine⟨h,λf hf=>?_⟩
  obtain⟨i,hi,rfl⟩:=List.mem_iff_getElem.1 hf
  exact hall i hi
theorem alike_rows (l m:List Fl)(b off cap cap':Nat)(a':Option Addr)(w:World)(hm:FilesAt w (.slice a' l.length cap') m)(he:m.length=l.length)(hn:l.length<8796093022208)(h0:∀i (h:i<l.length),w.cell? ⟨b,off+i*2,none⟩=some (.string l[i].1))(h1:∀i (h:i<l.length),w.cell? ⟨b,off+i*2+1,none⟩=some (.string l[i].2)):
    Calls prog 65 #[.slice (some ⟨b,off,none⟩) l.length cap,.slice a' l.length cap'] w λe w'=>e=.returned (.bool (alikeL l m))/\Drew w w':=by
  have hst:=λ(q:ByteArray) n=>law_stands m q (.slice a' l.length cap') (w.drewN n) hm (by omega)
  have He:Hid (l.length=m.length):=he.symm
  clear he
  go_enter func65,ntmps65
  go_wp2
  go_loopw [5] (λi wr=>∃k n:Nat,k<=l.length/\i=.int .i64 k/\wr=w.drewN n/\Hid (∀i (h:i<l.length),i<k->((standsL m l[i].1).toList==l[i].2.toList)=true)) (λi _=>l.length-(intOf i).toNat)
  case atStart=>exact⟨0,0,Nat.zero_le _,rfl,rfl,λi _ h=>absurd h (Nat.not_lt_zero i)⟩
  case round=>
    obtain⟨k,n,hk,rfl,rfl,Hall⟩:=hrel
    by_cases hlt:k<l.length
    · have H1:Hid ((!((standsL m l[k].1).toList==l[k].2.toList))=true->alikeL l m=false):=λh=>alikeL_miss hlt (by simpa using h)
      have H2:Hid ((!((standsL m l[k].1).toList==l[k].2.toList))=false->∀i (h:i<l.length),i<k+1->((standsL m l[i].1).toList==l[i].2.toList)=true):=λh i hi hik=>by
        by_cases e:i=k
        · subst e;simpa using h
        · exact Hall.out i hi (by omega)
      have hst':∀j,Calls prog 102 #[.slice a' l.length cap',.string l[k].1] (w.drewN (n+j)) λe w''=>e=.returned (.string (standsL m l[k].1))/\∃m,w''=w.drewN (n+m):=λj=>by
        refine(hst l[k].1 (n+j)).mono ?_
        rintro e w' ⟨rfl,rfl⟩
        exact⟨rfl,j,rfl⟩
      clear hst hm Hall
      generalize standsL m l[k].1=sv at H1 H2 hst'
      go_wp2
      go_quiet ((go_at_call 102;exact hst' _))
      go_wp2
      · go_ret
        exact⟨ret_bool (H1.out ‹_›).symm,(Drew.one _ _).trans (.one _ _)⟩
      · exact⟨⟨k+1,_,hlt,by go_num,rfl,H2.out ‹_›⟩,by simp[intOf];omega⟩
    · have hr:alikeL l m=true:=alikeL_hit He.out λi hi=>Hall.out i hi (by omega)
      go_wp2
      go_ret
      exact⟨ret_bool hr.symm,.one _ _⟩
theorem alike_far (x y:Option Addr)(n m cap cap':Nat)(w:World)(h:n≠m):
    Calls prog 65 #[.slice x n cap,.slice y m cap'] w λe w'=>e=.returned (.bool false)/\Drew w w':=by
  have h':((n:Int)==(m:Int))=false:=beq_false_of_ne (by omega)
  go_enter func65,ntmps65
  go_wp2
  go_ret
  exact⟨rfl,.refl _⟩
theorem alike_all (a b:List Fl)(va vb:Value)(w:World)(ha:FilesAt w va a)(hb:FilesAt w vb b)(hn:a.length<8796093022208):
    Calls prog 65 #[va,vb] w λe w'=>e=.returned (.bool (alikeL a b))/\Drew w w':=by
  obtain⟨y,cap',rfl⟩:=hb.form
  by_cases hl:a.length=b.length
  · rcases ha with ⟨rfl,x,cap,rfl⟩|⟨g,off,cap,rfl,hlt,h0,h1⟩
    · have hb0:b=[]:=List.eq_nil_of_length_eq_zero hl.symm
      subst hb0
      exact alike_none x y cap cap' w
    · have:=alike_rows a b g off cap cap' y w (by rw[hl];exact hb) hl.symm hn h0 h1
      rw[hl] at this ⊢
      exact this
  · obtain⟨x,cap,rfl⟩:=ha.form
    rw[alikeL_len hl]
    exact alike_far x y a.length b.length cap cap' w hl
def FilesF (base k:Nat)(w:World)(v:Value)(l:List Fl):Prop:=FilesAt w v l/\(0<k->∀g,v.ownBlock=some g->base<=g/\g<w.heap.size)
theorem FilesF.of_row {w:World}{base b2 k:Nat}{e:TypeId}{v:Value}{l:List Fl}(hb:base<=b2)(h:w.ownsRow b2 e 2 v l.length (l.flatMap cF)):FilesF base (k+1) w v l:=⟨FilesAt.of_row h,λ_ g hg=>⟨Nat.le_trans hb (World.ownsRow.lt h g hg).1,(World.ownsRow.lt h g hg).2⟩⟩
theorem room32B {n:Nat}(h:n<=1000000100):(n+1)*32<=140737488355328:=Nat.le_trans (Nat.mul_le_mul_right 32 (show n+1<=1000000101 by omega)) (by decide)
theorem roomlenB {n:Nat}(h:n<=1000000100):n+1<=maxLen:=by unfold maxLen;omega
def WithRes (e:Ending)(w w':World)(l:List Fl)(es:List Ed)(m:Nat):Prop:=
  (m=es.length/\∃v',e=.returned (.tuple #[v',.bool true])/\FilesAt w' v' (withL l es)/\(0<es.length->∀g,v'.ownBlock=some g->w.heap.size<=g/\g<w'.heap.size))\/(m<es.length/\e=.returned (.tuple #[.slice none 0 0,.bool false]))
theorem with_all (l:List Fl)(es:List Ed)(v:Value)(b off cap:Nat)(w:World)(hl:FilesAt w v l)(hlt:b<w.heap.size)(h0:∀i (h:i<es.length),w.cell? ⟨b,off+i*3,none⟩=some (.string es[i].1))(h1:∀i (h:i<es.length),w.cell? ⟨b,off+i*3+1,none⟩=some (.string es[i].2.1))(h2:∀i (h:i<es.length),w.cell? ⟨b,off+i*3+2,none⟩=some (.string es[i].2.2))(hn:l.length<=1000000000)(hm:es.length<=90)(m:Nat)(hml:m<=es.length)(hall:∀i (h:i<es.length),i<m->standsL l es[i].1=es[i].2.1)(hnot:∀h:m<es.length,standsL l es[m].1≠es[m].2.1):
    Calls prog 67 #[v,.slice (some ⟨b,off,none⟩) es.length cap] w λe w'=>WithRes e w w' l es m/\Below w.heap.size w w':=by
  obtain⟨i0,hi,hz0,hz1,hz2⟩:=info_parts info47
  have Hall:Hid (∀i (h:i<es.length),i<m->standsL l es[i].1=es[i].2.1):=hall
  have Hnot:Hid (∀h:m<es.length,standsL l es[m].1≠es[m].2.1):=hnot
  clear hall hnot
  go_enter func67,ntmps67
  go_wp2
  go_loopw [6,7] (λov i wr=>∃k:Nat,k<=m/\i=.int .i64 k/\FilesF w.heap.size k wr ov (withL l (es.take k))/\Below w.heap.size w wr) (λ_ i _=>es.length-(intOf i).toNat)
  case atStart=>exact⟨0,Nat.zero_le _,rfl,⟨hl,λh=>absurd h (Nat.lt_irrefl _)⟩,Below.refl _ _⟩
  case round=>
    obtain⟨k,hkm,rfl,⟨hout,hfr⟩,hb⟩:=hrel
    have hk:k<=es.length:=Nat.le_trans hkm hml
    obtain⟨wo,hwo⟩:∃x,x=wr:=⟨wr,rfl⟩
    subst hwo
    by_cases hne:k=m/\m<es.length
    · obtain⟨rfl,hlk⟩:=hne
      obtain⟨g0,g1,g2,gb⟩:=edits_cells hb hlt h0 h1 h2
      have hst:∀n,Calls prog 102 #[v,.string es[k].1] (wo.drewN n) λe w''=>e=.returned (.string (standsL l es[k].1))/\w''=wo.drewN n:=λn=>law_stands l es[k].1 v (wo.drewN n) (hl.later (drew_below (.one _ _) hb)) (by omega)
      have hq:((standsL l es[k].1).toList==es[k].2.1.toList)=false:=(beq_false_iff _ _).2 (Hnot.out hlk)
      clear h0 h1 h2 hl hout hfr
      generalize standsL l es[k].1=sv at hst hq
      go_wp2
      go_quiet ((go_at_call 102;exact Calls.quiet_of_same (hst _)))
      go_wp2
      go_ret2
      exact⟨.inr ⟨hlk,rfl⟩,drew_below (.one _ _) hb⟩
    by_cases hlk:k<es.length
    · have hk1:k+1<=m:=by omega
      clear hne
      obtain⟨g0,g1,g2,gb⟩:=edits_cells hb hlt h0 h1 h2
      have hst:∀n,Calls prog 102 #[v,.string es[k].1] (wo.drewN n) λe w''=>e=.returned (.string es[k].2.1)/\w''=wo.drewN n:=λn=>by
        have:=law_stands l es[k].1 v (wo.drewN n) (hl.later (drew_below (.one _ _) hb)) (by omega)
        rw[Hall.out k hlk hk1] at this
        exact this
      have hol:=withL_len l (es.take k)
      have htl:(es.take k).length<=k:=by rw[List.length_take];omega
      have Hw:Hid (withL l (es.take (k+1))=withOne (withL l (es.take k)) es[k]):=by
        rw[List.take_succ_eq_append_getElem hlk];exact withL_snoc _ _ _
      clear h0 h1 h2 hl
      generalize withL l (es.take k)=ol at hout hol Hw
      go_wp2
      go_quiet ((go_at_call 102;exact Calls.quiet_of_same (hst _)))
      have hdr:=Drew.one wo nq
      generalize wo.drewN nq=w1 at hdr ⊢
      rcases hout with ⟨rfl,a,c,rfl⟩|⟨bo,oo,co,rfl,hbo,r0,r1⟩
      · go_wp2
        go_loopw [8,9] (λlv jv wr'=>jv=.int .i64 0/\lv=.slice none 0 0/\Below wo.heap.size wo wr') (λ_ _ _=>0)
        case atStart=>exact⟨rfl,rfl,hdr.below⟩
        case round=>
          obtain⟨rfl,rfl,hb2⟩:=hrel
          obtain⟨e0,e1,e2,eb⟩:=edits_cells hb2 gb g0 g1 g2
          have hw2:=hb2.size
          clear g0 g1 g2
          have hrow:wr.ownsRow wo.heap.size 80 2 (.slice none 0 0) (but es[k].1 []).length ((but es[k].1 []).flatMap cF):=World.ownsRow_nil _ _ _ _
          cases hem:es[k].2.2.toList.isEmpty
          · have He:Hid (withOne [] es[k]=but es[k].1 []++[(es[k].1,es[k].2.2)]):=by show _=_;unfold withOne;rw[hem];rfl
            have hb3:Below w.heap.size w wr:=hb.trans (hb2.mono hb.size)
            have hbl:(but es[k].1 []).length<=0:=but_len es[k].1 []
            have q1:Hid ((but es[k].1 []).length+1<=maxLen):=roomlenB (by omega)
            have q2:Hid (((but es[k].1 []).length+1)*32<=140737488355328):=room32B (by omega)
            have q3:Hid (wo.heap.size<=(wr.alloc (.cells #[.string es[k].1,.string es[k].2.2] 80)).heap.size):=room_base hw2 _
            have c0:=e0 k hlk
            have c2:=e2 k hlk
            have hrow1:=hrow.alloc (.cells #[.string es[k].1,.string es[k].2.2] 80)
            generalize but es[k].1 []=bl at hrow hrow1 q1 q2 He
            clear hbl e1
            go_wp2
            go_region_held_law (λw'=>w'.cell? ⟨b,off+k*3,none⟩=some (.string es[k].1)/\w'.cell? ⟨b,off+k*3+2,none⟩=some (.string es[k].2.2)) (go_keep) ((refine step_append_own rfl _ _ _ rfl wo.heap.size _ i0 _ 2 32 underlying24 hi hz0 hz1 hz2 rfl (by decide) (.slice none 0 0) _ _ rfl hrow1 ⟨wr.heap.size,0,none⟩ 1 1 [.string es[k].1,.string es[k].2.2] rfl rfl (cell_two_new wr _ _ _) (by simp[Value.oneCell']) q1.out q2.out q3.out ?_;intro v' w3 hown' hg3;obtain⟨d0,d2⟩:=cells_app gb hrow hg3 c0 c2))
            go_wp2
            exact⟨⟨k+1,hk1,by go_num,by rw[Hw.out,He.out];exact FilesF.of_row hb.size (row_snoc rfl (by assumption)),hb.trans ((below_app (nq:=1) hb2 hrow (by assumption)).mono hb.size)⟩,by simp[intOf];omega⟩
          · have He:Hid (withOne [] es[k]=but es[k].1 []):=by show _=_;unfold withOne;rw[hem];exact List.append_nil _
            have hb3:Below w.heap.size w wr:=hb.trans (hb2.mono hb.size)
            have hfin:=FilesF.of_row (k:=k) hb.size hrow
            clear hrow
            go_wp2
            go_roundw
            case rel=>exact⟨k+1,hk1,by go_num,by rw[Hw.out,He.out];exact hfin,hb3⟩
            case measure=>simp[intOf];omega
      · go_wp2
        go_loopw [8,9] (λlv jv wr'=>∃j:Nat,j<=ol.length/\jv=.int .i64 j/\wr'.ownsRow wo.heap.size 80 2 lv (but es[k].1 (ol.take j)).length ((but es[k].1 (ol.take j)).flatMap cF)/\Below wo.heap.size wo wr') (λ_ jv _=>ol.length-(intOf jv).toNat)
        case atStart=>exact⟨0,Nat.zero_le _,rfl,World.ownsRow_nil _ _ _ _,hdr.below⟩
        case round=>
          obtain⟨j,hj,rfl,hrow,hb2⟩:=hrel
          obtain⟨e0,e1,e2,eb⟩:=edits_cells hb2 gb g0 g1 g2
          obtain⟨f0,f1,fb⟩:=files_cells hb2 hbo r0 r1
          have hw2:=hb2.size
          clear g0 g1 g2 r0 r1
          by_cases hjl:j<ol.length
          · have hbl:=but_len es[k].1 (ol.take j)
            have htj:(ol.take j).length<=j:=by rw[List.length_take];omega
            have q1:Hid ((but es[k].1 (ol.take j)).length+1<=maxLen):=roomlenB (by omega)
            have q2:Hid (((but es[k].1 (ol.take j)).length+1)*32<=140737488355328):=room32B (by omega)
            have q3:Hid (wo.heap.size<=(wr.alloc (.cells #[.string ol[j].1,.string ol[j].2] 80)).heap.size):=room_base hw2 _
            have H1:=but_hit es[k].1 hjl
            have H2:=but_miss es[k].1 hjl
            have HH1:Hid ((!(ol[j].1.toList==es[k].1.toList))=true->but es[k].1 (ol.take (j+1))=but es[k].1 (ol.take j)++[ol[j]]):=H1
            have HH2:Hid ((!(ol[j].1.toList==es[k].1.toList))=false->but es[k].1 (ol.take (j+1))=but es[k].1 (ol.take j)):=H2
            clear H1 H2 hbl htj
            generalize but es[k].1 (ol.take j)=bl at hrow q1 q2 HH1 HH2
            go_wp2
            go_quiet (fail)
            go_wp2_with (at_builtin;go_must (refine wpList_append_own _ rfl _ _ _ rfl wo.heap.size _ i0 _ 2 32 underlying24 hi hz0 hz1 hz2 rfl (by decide) _ _ _ rfl ((drew_row (.one _ nq) hrow).alloc (.cells #[.string ol[j].1,.string ol[j].2] 80)) ⟨wr.heap.size,0,none⟩ 1 1 [.string ol[j].1,.string ol[j].2] rfl rfl (cell_two_new wr _ _ _) (by simp[Value.oneCell']) q1.out q2.out q3.out ?_);intro v' w3 hown' hg3 hnil3;go_frame)
            · refine⟨⟨j+1,hjl,by go_num,by rw[HH1.out ‹_›];exact row_snoc rfl hown',below_app hb2 hrow hg3⟩,by simp[intOf];omega⟩
            · exact⟨⟨j+1,hjl,by go_num,by rw[HH2.out ‹_›];exact hrow,drew_below (.one _ _) hb2⟩,by simp[intOf];omega⟩
          · have e:ol.take j=ol:=List.take_of_length_le (by omega)
            rw[e] at hrow
            clear e
            cases hem:es[k].2.2.toList.isEmpty
            · have He:Hid (withOne ol es[k]=but es[k].1 ol++[(es[k].1,es[k].2.2)]):=by show _=_;unfold withOne;rw[hem];rfl
              have hb3:Below w.heap.size w wr:=hb.trans (hb2.mono hb.size)
              have hbl:=but_len es[k].1 ol
              have q1:Hid ((but es[k].1 ol).length+1<=maxLen):=roomlenB (by omega)
              have q2:Hid (((but es[k].1 ol).length+1)*32<=140737488355328):=room32B (by omega)
              have q3:Hid (wo.heap.size<=(wr.alloc (.cells #[.string es[k].1,.string es[k].2.2] 80)).heap.size):=room_base hw2 _
              have c0:=e0 k hlk
              have c2:=e2 k hlk
              have hrow1:=hrow.alloc (.cells #[.string es[k].1,.string es[k].2.2] 80)
              generalize but es[k].1 ol=bl at hrow hrow1 q1 q2 He
              clear hbl f0 f1 e1
              go_wp2
              go_region_held_law (λw'=>w'.cell? ⟨b,off+k*3,none⟩=some (.string es[k].1)/\w'.cell? ⟨b,off+k*3+2,none⟩=some (.string es[k].2.2)) (go_keep) ((refine step_append_own rfl _ _ _ rfl wo.heap.size _ i0 _ 2 32 underlying24 hi hz0 hz1 hz2 rfl (by decide) u8 _ _ rfl hrow1 ⟨wr.heap.size,0,none⟩ 1 1 [.string es[k].1,.string es[k].2.2] rfl rfl (cell_two_new wr _ _ _) (by simp[Value.oneCell']) q1.out q2.out q3.out ?_;intro v' w3 hown' hg3;obtain⟨d0,d2⟩:=cells_app gb hrow hg3 c0 c2))
              go_wp2
              exact⟨⟨k+1,hk1,by go_num,by rw[Hw.out,He.out];exact FilesF.of_row hb.size (row_snoc rfl (by assumption)),hb.trans ((below_app (nq:=1) hb2 hrow (by assumption)).mono hb.size)⟩,by simp[intOf];omega⟩
            · have He:Hid (withOne ol es[k]=but es[k].1 ol):=by show _=_;unfold withOne;rw[hem];exact List.append_nil _
              have hb3:Below w.heap.size w wr:=hb.trans (hb2.mono hb.size)
              have hfin:=FilesF.of_row (k:=k) hb.size hrow
              clear hrow
              go_wp2
              go_roundw
              case rel=>exact⟨k+1,hk1,by go_num,by rw[Hw.out,He.out];exact hfin,hb3⟩
              case measure=>simp[intOf];omega
    · have e:es.take k=es:=List.take_of_length_le (by omega)
      rw[e] at hout
      go_wp2
      go_ret2
      exact⟨.inl ⟨by omega,_,rfl,hout,λh0=>hfr (by omega)⟩,hb⟩
theorem with_is (l:List Fl)(es:List Ed)(v ev:Value)(w:World)(hl:FilesAt w v l)(he:EditsAt w ev es)(h1:0<es.length)(hn:l.length<=1000000000)(hm:es.length<=90):
    Calls prog 67 #[v,ev] w λe w'=>((onL l es=true/\∃v',e=.returned (.tuple #[v',.bool true])/\FilesAt w' v' (withL l es)/\∀g,v'.ownBlock=some g->w.heap.size<=g/\g<w'.heap.size)\/(onL l es=false/\e=.returned (.tuple #[.slice none 0 0,.bool false])))/\Below w.heap.size w w':=by
  rcases he with ⟨rfl,_⟩|⟨b,off,cap,rfl,hlt,c0,c1,c2⟩
  · simp at h1
  · obtain⟨m,hml,hall,hnot⟩:∃m,m<=es.length/\(∀i (h:i<es.length),i<m->standsL l es[i].1=es[i].2.1)/\∀h:m<es.length,standsL l es[m].1≠es[m].2.1:=by
      have key:∀n,n<=es.length->∃m,m<=n/\(∀i (h:i<es.length),i<m->standsL l es[i].1=es[i].2.1)/\(m<n->∀h:m<es.length,standsL l es[m].1≠es[m].2.1):=λn=>by
        induction n with
        |zero=>exact λ_=>⟨0,Nat.le_refl _,λi _ h=>absurd h (Nat.not_lt_zero i),λh=>absurd h (Nat.lt_irrefl _)⟩
        |succ n ih=>
          intro hn
          obtain⟨m,a,b,d⟩:=ih (by omega)
          by_cases e:m<n
          · exact⟨m,by omega,b,λ_=>d e⟩
          · have e:m=n:=by omega
            subst e
            by_cases hq:standsL l es[m].1=es[m].2.1
            · refine⟨m+1,Nat.le_refl _,λi hi him=>?_,λh=>absurd h (Nat.lt_irrefl _)⟩
              by_cases e:i=m
              · subst e;exact hq
              · exact b i hi (by omega)
            · exact⟨m,by omega,b,λ_ _=>hq⟩
      obtain⟨m,a,b,d⟩:=key es.length (Nat.le_refl _)
      exact⟨m,a,b,λh=>d h h⟩
    refine(with_all l es v b off cap w hl hlt c0 c1 c2 hn hm m hml hall hnot).mono ?_
    rintro e w' ⟨hr,hb⟩
    refine⟨?_,hb⟩
    rcases hr with ⟨rfl,v',rfl,hv,hf⟩|⟨hlm,rfl⟩
    · refine .inl ⟨?_,v',rfl,hv,hf h1⟩
      unfold onL
      rw[List.all_eq_true]
      intro x hx
      obtain⟨i,hi,rfl⟩:=List.mem_iff_getElem.1 hx
      exact(beq_true_iff _ _).2 (hall i hi hi)
    · refine .inr ⟨?_,rfl⟩
      unfold onL
      rw[List.all_eq_false]
      exact⟨es[m],List.getElem_mem hlm,by rw[(beq_false_iff _ _).2 (hnot hlm)];exact Bool.false_ne_true⟩
end Go.Proofs.YtgamgomepdfgdaaGreat
