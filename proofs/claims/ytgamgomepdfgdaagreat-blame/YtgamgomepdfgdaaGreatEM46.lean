import Derived.Test.YtgamgomepdfgdaaGreatEM13
set_option maxRecDepth 100000
set_option maxHeartbeats 8000000
namespace Go.Proofs.YtgamgomepdfgdaaGreat
open Go.RowKit Go.Proofs.Tryz
def pe (q:ByteArray):List Ed:=[(q,⟨#[]⟩,⟨#[120]⟩)]
theorem upd_ne {g:ByteArray->ByteArray}{q v r:ByteArray}(h:r≠q):upd g q v r=g r:=upd_other g v (Ne.symm h)
theorem pe_on {g:ByteArray->ByteArray}{q:ByteArray}(h:g q=⟨#[]⟩):appOn g (pe q)=true:=by
  rw[appOn_iff]
  intro e he
  rw[List.mem_singleton.1 he];exact h
theorem pe_edited (g:ByteArray->ByteArray)(q:ByteArray):edited g (pe q)=upd g q ⟨#[120]⟩:=rfl
def Frees (P:Nat->ByteArray)(g:ByteArray->ByteArray)(l:List Cg):Prop:=(∀y∈l,y.2=pe (P y.1)/\g (P y.1)=⟨#[]⟩)/\(l.map Prod.fst).Pairwise λi j=>P i≠P j
theorem Frees.tail {P:Nat->ByteArray}{g:ByteArray->ByteArray}{y:Cg}{l:List Cg}(h:Frees P g (y::l)):Frees P (edited g y.2) l:=by
  have hy:=h.1 y List.mem_cons_self
  have hp:=h.2
  rw[List.map_cons,List.pairwise_cons] at hp
  refine⟨λz hz=>⟨(h.1 z (List.mem_cons_of_mem _ hz)).1,?_⟩,hp.2⟩
  rw[hy.1,pe_edited,upd_ne λe=>hp.1 z.1 (List.mem_map_of_mem hz) e.symm]
  exact(h.1 z (List.mem_cons_of_mem _ hz)).2
theorem Frees.makes_ {P:Nat->ByteArray}:∀{l:List Cg} {g:ByteArray->ByteArray},Frees P g l->makes g l=(after g l,l.length)
  |[],g,_=>rfl
  |y::l,g,h=>by
    have hy:=h.1 y List.mem_cons_self
    have ih:=h.tail.makes_
    have ha:appOn g y.2=true:=by rw[hy.1];exact pe_on hy.2
    have e1:makes g (y::l)=((makes (edited g y.2) l).1,(makes (edited g y.2) l).2+1):=by
      rw[makes,if_pos ha]
    rw[e1,ih]
    rfl
theorem Frees.after_ {P:Nat->ByteArray}:∀{l:List Cg} {g:ByteArray->ByteArray},Frees P g l->∀q,(∀y∈l,P y.1≠q)->after g l q=g q
  |[],g,_,q,_=>rfl
  |y::l,g,h,q,hq=>by
    have hy:=h.1 y List.mem_cons_self
    have ih:=h.tail.after_ q λz hz=>hq z (List.mem_cons_of_mem _ hz)
    show after (edited g y.2) l q=_
    rw[ih,hy.1,pe_edited,upd_ne λe=>hq y List.mem_cons_self e.symm]
theorem Ts.run_end {c:Cfg}(hc:c.Ok):∀(n:Nat) {s:Ts},s.Inv c->s.mu<=n->(s.run c n).step c=none
  |0,s,h,hn=>by
    cases hs:s.step c with
    |none=>rw[Ts.run_none hs];exact hs
    |some s'=>have:=(h.goes hc hs).2;omega
  |n+1,s,h,hn=>by
    cases hs:s.step c with
    |none=>rw[Ts.run_none hs];exact hs
    |some s'=>
      obtain⟨h',hlt⟩:=h.goes hc hs
      have e:s.run c (n+1)=s'.run c n:=by rw[Ts.run,hs]
      rw[e]
      exact Ts.run_end hc n h' (by omega)
theorem Ts.run_keeps {c:Cfg}{I:Ts->Prop}(hI:∀s s',I s->s.Inv c->s.step c=some s'->I s')(hc:c.Ok):∀(n:Nat) {s:Ts},s.Inv c->I s->I (s.run c n)
  |0,s,_,h=>h
  |n+1,s,hi,h=>by
    cases hs:s.step c with
    |none=>rw[Ts.run_none hs];exact h
    |some s'=>
      have e:s.run c (n+1)=s'.run c n:=by rw[Ts.run,hs]
      rw[e]
      exact Ts.run_keeps hI hc n (hi.goes hc hs).1 (hI s s' h hi hs)
def Sm.bones (x:Sm):List Cg×Nat×Nat:=(x.l,x.fails,x.by_)
theorem begins_bones {c:Cfg}{now:Nat}:∀(r:Nat) (l:List Sm) (g:ByteArray->ByteArray) (b:Nat),(begins c now r l g b).1.map Sm.bones=l.map Sm.bones
  |0,l,g,b=>by rw[begins]
  |r+1,[],g,b=>by rw[begins]
  |r+1,x::l,g,b=>by
    rw[begins]
    split
    · rfl
    · split
      · rw[List.map_cons,List.map_cons,begins_bones r l];rfl
      · rw[List.map_cons,List.map_cons,begins_bones r l]
theorem begins_first {c:Cfg}{now r:Nat}{x:Sm}{l:List Sm}{g:ByteArray->ByteArray}{b:Nat}(h1:¬(makes g x.l).2<x.l.length)(h2:¬c.retries<x.fails)(h3:x.by_=0):∃x' l',(begins c now (r+1) (x::l) g b).1=x'::l'/\x'.bones=x.bones/\(∃j,x'.job=some j)/\l'.map Sm.bones=l.map Sm.bones:=by
  rw[begins,if_neg (λh=>h.elim h1 h2)]
  split
  · exact⟨_,_,rfl,rfl,⟨_,rfl⟩,begins_bones r l _ _⟩
  · rename_i h
    refine⟨_,_,rfl,rfl,?_,begins_bones r l _ _⟩
    cases hj:x.job with
    |none=>exact absurd ⟨h3,by rw[hj];rfl⟩ h
    |some j=>exact⟨j,rfl⟩
theorem rank_zero {c:Cfg}{s:Ts}(h:∀x∈s.queue,laneC c.age x=0):s.ranked c=s.queue:=by
  unfold Ts.ranked rkG
  have h0:(s.queue.filter λx=>laneC c.age x==0)=s.queue:=List.filter_eq_self.2 λx hx=>by rw[h x hx];rfl
  have h1:∀l,l≠0->(s.queue.filter λx=>laneC c.age x==l)=[]:=λl hl=>by
    rw[List.filter_eq_nil_iff]
    intro x hx
    rw[h x hx]
    simp only[beq_iff_eq]
    omega
  rw[show List.range 4=[0,1,2,3] from rfl]
  simp only[List.flatMap_cons,List.flatMap_nil,List.append_nil]
  rw[h0,h1 1 (by decide),h1 2 (by decide),h1 3 (by decide)]
  simp
def Ts.rest (s:Ts):List Nat:=(s.segs.flatMap Sm.l).map Prod.fst++s.queue.map Ch.id
def needs (R:Nat)(x:Sm):Nat:=if x.by_=0 then (R+1)*(2*x.l.length-1)-x.fails else 0
def needAll (R:Nat)(l:List Sm):Nat:=(l.map (needs R)).sum
def Ts.need (R:Nat)(s:Ts):Nat:=needAll R s.segs+(R+1)*(2*s.queue.length)
theorem needAll_cons (R:Nat)(x:Sm)(l:List Sm):needAll R (x::l)=needs R x+needAll R l:=by simp[needAll]
def Told1 (bad:Nat->Bool)(x:Sm):Prop:=(x.by_≠0->∀y∈x.l,bad y.1=false)/\(0<x.fails->∃y∈x.l,bad y.1=true)
structure Bz (c:Cfg)(P:Nat->ByteArray)(bad:Nat->Bool)(n:Nat)(s:Ts):Prop where
  ord:s.outs.map Prod.fst++s.rest=1000000::List.range' 1 n
  knd:∀o∈s.outs,o=(1000000,1)\/o.2=if bad o.1 then 2 else 1
  eds:∀y∈s.segs.flatMap Sm.l,y.2=pe (P y.1)
  que:∀x∈s.queue,x.edits=pe (P x.id)/\x.lane=0
  tip:∀i∈s.rest,s.tip (P i)=⟨#[]⟩
  apart:s.rest.Pairwise λi j=>P i≠P j
  first:∀x m,s.segs=x::m->Told1 bad x/\∀z∈m,z.by_=0/\z.fails=0
  ne:∀x∈s.segs,x.l≠[]
theorem renew_flat (m:List Sm):(m.map Sm.renew).flatMap Sm.l=m.flatMap Sm.l:=by
  rw[List.flatMap_map];rfl
theorem needs_fresh {R:Nat}{z:Sm}(h:z.by_=0/\z.fails=0):needs R z.renew=needs R z:=by
  unfold needs
  rw[if_pos h.1,if_pos (show z.renew.by_=0 from rfl),h.2];rfl
theorem needAll_renew {R:Nat}:∀{m:List Sm},(∀z∈m,z.by_=0/\z.fails=0)->needAll R (m.map Sm.renew)=needAll R m
  |[],_=>rfl
  |z::m,h=>by
    rw[List.map_cons,needAll_cons,needAll_cons,needs_fresh (h z List.mem_cons_self),needAll_renew λy hy=>h y (List.mem_cons_of_mem _ hy)]
theorem Bz.frees {c:Cfg}{P:Nat->ByteArray}{bad:Nat->Bool}{n:Nat}{s:Ts}{x:Sm}{m:List Sm}(h:Bz c P bad n s)(e:s.segs=x::m):Frees P s.tip x.l:=by
  have hr:s.rest=x.l.map Prod.fst++((m.flatMap Sm.l).map Prod.fst++s.queue.map Ch.id):=by
    unfold Ts.rest
    rw[e,List.flatMap_cons,List.map_append,List.append_assoc]
  refine⟨λy hy=>⟨h.eds y (by rw[e,List.flatMap_cons];exact List.mem_append_left _ hy),h.tip y.1 (by rw[hr];exact List.mem_append_left _ (List.mem_map_of_mem hy))⟩,?_⟩
  have:=h.apart
  rw[hr] at this
  exact(List.pairwise_append.1 this).1
theorem Bz.step {c:Cfg}{P:Nat->ByteArray}{bad:Nat->Bool}{n:Nat}{s s':Ts}(h:Bz c P bad n s)(hI:s.Inv c)(hc:c.Ok)(hs:s.step c=some s'):Bz c P bad n s'/\s'.need c.retries<=s.need c.retries:=by
  unfold Ts.step at hs
  split at hs
  · rename_i e
    split at hs
    · cases hs
    · rename_i hq
      cases hs
      have hrk:s.ranked c=s.queue:=rank_zero λx hx=>by unfold laneC;rw[(h.que x hx).2];exact Nat.zero_sub _
      have hleft:(s.queue.filter λx=> !((s.ranked c).take c.batch).any λy=>y.id==x.id)=s.queue.drop c.batch:=by rw[hrk];exact left_drop hI.nd _
      have hsg:(s.pick c).segs=[Sm.new ((s.queue.take c.batch).map Ch.cg)]:=by show [Sm.new (((s.ranked c).take c.batch).map Ch.cg)]=_;rw[hrk]
      have hqq:(s.pick c).queue=(s.queue.drop c.batch).map Ch.up:=by show (s.queue.filter _).map Ch.up=_;rw[hleft]
      have hpos:0<s.queue.length:=List.length_pos_iff.2 λe2=>hq (by simp[e2])
      have hb:=hc.2.2.1.1
      have hr0:s.rest=s.queue.map Ch.id:=by unfold Ts.rest;rw[e];rfl
      have hcg:(((s.queue.take c.batch).map Ch.cg)).map Prod.fst=(s.queue.take c.batch).map Ch.id:=by rw[List.map_map];rfl
      have hup:((s.queue.drop c.batch).map Ch.up).map Ch.id=(s.queue.drop c.batch).map Ch.id:=by rw[List.map_map];rfl
      have hr:(s.pick c).rest=s.rest:=by
        rw[hr0]
        unfold Ts.rest
        rw[hsg,hqq,List.flatMap_cons,List.flatMap_nil,List.append_nil,hup]
        show ((s.queue.take c.batch).map Ch.cg).map Prod.fst++_=_
        rw[hcg,<-List.map_append,List.take_append_drop]
      refine⟨⟨by rw[hr];exact h.ord,h.knd,λy hy=>?_,λx hx=>?_,λi hi=>h.tip i (by rw[hr] at hi;exact hi),by rw[hr];exact h.apart,λx m e2=>?_,λx hx=>?_⟩,?_⟩
      · rw[hsg,List.flatMap_cons,List.flatMap_nil,List.append_nil] at hy
        obtain⟨z,hz,rfl⟩:=List.mem_map.1 (show y∈(s.queue.take c.batch).map Ch.cg from hy)
        exact(h.que z (List.mem_of_mem_take hz)).1
      · rw[hqq] at hx
        obtain⟨z,hz,rfl⟩:=List.mem_map.1 hx
        exact h.que z (List.mem_of_mem_drop hz)
      · rw[hsg] at e2
        cases e2
        exact⟨⟨λh=>absurd rfl h,λh=>absurd h (Nat.lt_irrefl 0)⟩,λz hz=>by cases hz⟩
      · rw[hsg] at hx
        obtain rfl:=List.mem_singleton.1 hx
        intro e2
        have:((s.queue.take c.batch).map Ch.cg).length=0:=by rw[show (s.queue.take c.batch).map Ch.cg=[] from e2];rfl
        rw[List.length_map,List.length_take] at this
        omega
      · have h1:needs c.retries (Sm.new ((s.queue.take c.batch).map Ch.cg))=(c.retries+1)*(2*(min c.batch s.queue.length)-1):=by
          unfold needs
          rw[if_pos (show (Sm.new _).by_=0 from rfl)]
          show (c.retries+1)*(2*((s.queue.take c.batch).map Ch.cg).length-1)-0=_
          rw[List.length_map,List.length_take,Nat.sub_zero]
        unfold Ts.need
        rw[hsg,hqq,e,needAll_cons,h1,List.length_map,List.length_drop]
        show (c.retries+1)*(2*min c.batch s.queue.length-1)+0+(c.retries+1)*(2*(s.queue.length-c.batch))<=0+(c.retries+1)*(2*s.queue.length)
        rw[Nat.add_zero,Nat.zero_add,<-Nat.mul_add]
        exact Nat.mul_le_mul_left _ (by omega)
  · rename_i f m e
    have hF:=h.frees e
    have hm:=hF.makes_
    have hfn:f.l≠[]:=h.ne f (by rw[e];exact List.mem_cons_self)
    have hfl:0<f.l.length:=List.length_pos_iff.2 hfn
    obtain⟨hT,hB⟩:=h.first f m e
    have hre:s.rest=f.l.map Prod.fst++((m.flatMap Sm.l).map Prod.fst++s.queue.map Ch.id):=by
      unfold Ts.rest
      rw[e,List.flatMap_cons,List.map_append,List.append_assoc]
    have hap:=h.apart
    rw[hre] at hap
    split at hs
    · rename_i h0;rw[hm] at h0;exact absurd h0 (by show f.l.length≠0;omega)
    split at hs
    · rename_i h0;rw[hm] at h0;exact absurd h0 (Nat.lt_irrefl _)
    split at hs
    · rename_i hby
      cases hs
      have hr:(s.land f m).rest=(m.flatMap Sm.l).map Prod.fst++s.queue.map Ch.id:=rfl
      refine⟨⟨?_,λo ho=>?_,λy hy=>?_,h.que,λi hi=>?_,?_,λx m' e2=>?_,λx hx=>h.ne x (by rw[e];exact List.mem_cons_of_mem _ hx)⟩,?_⟩
      · rw[hr,<-h.ord,hre]
        show (s.outs++f.l.map λx:Cg=>(x.1,1)).map Prod.fst++_=_
        rw[List.map_append,List.map_map,List.append_assoc];rfl
      · rcases List.mem_append.1 (show o∈s.outs++f.l.map λx:Cg=>(x.1,1) from ho) with ho|ho
        · exact h.knd o ho
        · obtain⟨y,hy,rfl⟩:=List.mem_map.1 ho
          right
          show 1=if bad y.1 then 2 else 1
          rw[hT.1 hby y hy];rfl
      · exact h.eds y (by rw[e,List.flatMap_cons];exact List.mem_append_right _ hy)
      · rw[hr] at hi
        show (makes s.tip f.l).1 (P i)=_
        rw[hm]
        show after s.tip f.l (P i)=_
        rw[hF.after_ _ λy hy=>(List.pairwise_append.1 hap).2.2 y.1 (List.mem_map_of_mem hy) i hi]
        exact h.tip i (by rw[hre];exact List.mem_append_right _ hi)
      · rw[hr];exact(List.pairwise_append.1 hap).2.1
      · have e2:m=x::m':=e2
        subst e2
        have h1:=hB x List.mem_cons_self
        exact⟨⟨λh=>absurd h1.1 h,λh=>by omega⟩,λz hz=>hB z (List.mem_cons_of_mem _ hz)⟩
      · unfold Ts.need
        rw[e,needAll_cons]
        show needAll c.retries m+(c.retries+1)*(2*s.queue.length)<=_
        omega
    split at hs
    · rename_i hby hfa
      have hby:f.by_=0:=by simpa using hby
      have hfr:f.fails=c.retries+1:=by have:=(hI.sm f (by rw[e];exact List.mem_cons_self)).fails;omega
      have hcul:=hT.2 (by omega)
      cases hs
      unfold Ts.blame
      split
      · rename_i h1
        obtain⟨k,hk⟩:∃k,k=(f.l.length+1)/2:=⟨_,rfl⟩
        rw[<-hk]
        have hfl2:((s.split f k (m.map Sm.renew)).segs).flatMap Sm.l=s.segs.flatMap Sm.l:=by
          show (Sm.new (f.l.take k)::Sm.new (f.l.drop k)::m.map Sm.renew).flatMap Sm.l=_
          rw[List.flatMap_cons,List.flatMap_cons,renew_flat,e,List.flatMap_cons]
          show f.l.take k++(f.l.drop k++_)=_
          rw[<-List.append_assoc,List.take_append_drop]
        have hr:(s.split f k (m.map Sm.renew)).rest=s.rest:=by
          unfold Ts.rest
          rw[hfl2];rfl
        refine⟨⟨by rw[hr];exact h.ord,h.knd,λy hy=>h.eds y (by rw[hfl2] at hy;exact hy),h.que,λi hi=>h.tip i (by rw[hr] at hi;exact hi),by rw[hr];exact h.apart,λx m' e2=>?_,λx hx=>?_⟩,?_⟩
        · cases (show Sm.new (f.l.take k)::Sm.new (f.l.drop k)::m.map Sm.renew=x::m' from e2)
          refine⟨⟨λh=>absurd rfl h,λh=>absurd h (Nat.lt_irrefl 0)⟩,λz hz=>?_⟩
          rcases List.mem_cons.1 hz with rfl|hz
          · exact⟨rfl,rfl⟩
          · obtain⟨y,_,rfl⟩:=List.mem_map.1 hz
            exact⟨rfl,rfl⟩
        · rcases List.mem_cons.1 (show x∈Sm.new (f.l.take k)::Sm.new (f.l.drop k)::m.map Sm.renew from hx) with rfl|hx
          · intro e2
            have:(f.l.take k).length=0:=by rw[show f.l.take k=[] from e2];rfl
            rw[List.length_take] at this;omega
          rcases List.mem_cons.1 hx with rfl|hx
          · intro e2
            have:(f.l.drop k).length=0:=by rw[show f.l.drop k=[] from e2];rfl
            rw[List.length_drop] at this;omega
          · obtain⟨y,hy,rfl⟩:=List.mem_map.1 hx
            exact h.ne y (by rw[e];exact List.mem_cons_of_mem _ hy)
        · unfold Ts.need
          show needAll c.retries (Sm.new (f.l.take k)::Sm.new (f.l.drop k)::m.map Sm.renew)+(c.retries+1)*(2*s.queue.length)<=_
          rw[e,needAll_cons,needAll_cons,needAll_cons,needAll_renew hB]
          have n1:needs c.retries (Sm.new (f.l.take k))=(c.retries+1)*(2*k-1):=by
            unfold needs
            rw[if_pos (show (Sm.new _).by_=0 from rfl)]
            show (c.retries+1)*(2*(f.l.take k).length-1)-0=_
            rw[List.length_take,Nat.sub_zero,Nat.min_eq_left (by omega)]
          have n2:needs c.retries (Sm.new (f.l.drop k))=(c.retries+1)*(2*(f.l.length-k)-1):=by
            unfold needs
            rw[if_pos (show (Sm.new _).by_=0 from rfl)]
            show (c.retries+1)*(2*(f.l.drop k).length-1)-0=_
            rw[List.length_drop,Nat.sub_zero]
          have n3:needs c.retries f=(c.retries+1)*(2*f.l.length-1)-(c.retries+1):=by
            unfold needs
            rw[if_pos hby,hfr]
          have n4:(c.retries+1)*(2*k-1)+(c.retries+1)*(2*(f.l.length-k)-1)=(c.retries+1)*(2*f.l.length-1)-(c.retries+1):=by
            rw[<-Nat.mul_add,show 2*k-1+(2*(f.l.length-k)-1)=2*f.l.length-1-1 by omega,Nat.mul_sub (c.retries+1) (2*f.l.length-1) 1,Nat.mul_one]
          rw[n1,n2,n3]
          omega
      · rename_i h1
        obtain⟨y,hy⟩:∃y,f.l=[y]:=List.length_eq_one_iff.1 (by omega)
        have hbad:bad y.1=true:=by
          obtain⟨z,hz,hb⟩:=hcul
          rw[hy,List.mem_singleton] at hz
          rw[<-hz];exact hb
        have hre':s.rest=y.1::((m.flatMap Sm.l).map Prod.fst++s.queue.map Ch.id):=by rw[hre,hy];rfl
        have hout:s.outs++(f.l.take 1).map (λx:Cg=>(x.1,2))=s.outs++[(y.1,2)]:=by rw[hy];rfl
        have hr:({s with outs:=s.outs++(f.l.take 1).map (λx:Cg=>(x.1,2)),segs:=m.map Sm.renew}:Ts).rest=(m.flatMap Sm.l).map Prod.fst++s.queue.map Ch.id:=by
          unfold Ts.rest
          show ((m.map Sm.renew).flatMap Sm.l).map Prod.fst++_=_
          rw[renew_flat]
        refine⟨⟨?_,λo ho=>?_,λy hy=>?_,h.que,λi hi=>?_,?_,λx m' e2=>?_,λx hx=>?_⟩,?_⟩
        · rw[hr,<-h.ord,hre']
          show (s.outs++(f.l.take 1).map λx:Cg=>(x.1,2)).map Prod.fst++_=_
          rw[hout,List.map_append,List.append_assoc];rfl
        · have ho:o∈s.outs++(f.l.take 1).map (λx:Cg=>(x.1,2)):=ho
          rw[hout] at ho
          rcases List.mem_append.1 ho with ho|ho
          · exact h.knd o ho
          · rw[List.mem_singleton.1 ho]
            right
            show 2=if bad y.1 then 2 else 1
            rw[hbad];rfl
        · have hy:y∈(m.map Sm.renew).flatMap Sm.l:=hy
          rw[renew_flat] at hy
          exact h.eds y (by rw[e,List.flatMap_cons];exact List.mem_append_right _ hy)
        · rw[hr] at hi
          exact h.tip i (by rw[hre'];exact List.mem_cons_of_mem _ hi)
        · rw[hr];exact(List.pairwise_append.1 hap).2.1
        · have e2:m.map Sm.renew=x::m':=e2
          have hall:∀z∈m.map Sm.renew,z.by_=0/\z.fails=0:=λz hz=>by
            obtain⟨y,_,rfl⟩:=List.mem_map.1 hz
            exact⟨rfl,rfl⟩
          rw[e2] at hall
          have h1:=hall x List.mem_cons_self
          exact⟨⟨λh=>absurd h1.1 h,λh=>by omega⟩,λz hz=>hall z (List.mem_cons_of_mem _ hz)⟩
        · obtain⟨y,hy,rfl⟩:=List.mem_map.1 (show x∈m.map Sm.renew from hx)
          exact h.ne y (by rw[e];exact List.mem_cons_of_mem _ hy)
        · unfold Ts.need
          show needAll c.retries (m.map Sm.renew)+(c.retries+1)*(2*s.queue.length)<=_
          rw[e,needAll_cons,needAll_renew hB]
          omega
    · cases hs
theorem bones_l {a b:List Sm}(h:a.map Sm.bones=b.map Sm.bones):a.flatMap Sm.l=b.flatMap Sm.l:=by
  have e:∀l:List Sm,l.flatMap Sm.l=(l.map Sm.bones).flatMap Prod.fst:=λl=>by rw[List.flatMap_map];rfl
  rw[e,e,h]
theorem bones_need {R:Nat}{a b:List Sm}(h:a.map Sm.bones=b.map Sm.bones):needAll R a=needAll R b:=by
  have e:∀l:List Sm,l.map (needs R)=(l.map Sm.bones).map λz=>if z.2.2=0 then (R+1)*(2*z.1.length-1)-z.2.1 else 0:=λl=>by rw[List.map_map];rfl
  unfold needAll
  rw[e,e,h]
theorem Bz.bones {c:Cfg}{P:Nat->ByteArray}{bad:Nat->Bool}{n:Nat}{s s':Ts}(h:Bz c P bad n s)(e1:s'.outs=s.outs)(e2:s'.queue=s.queue)(e3:s'.tip=s.tip)(hb:s'.segs.map Sm.bones=s.segs.map Sm.bones):Bz c P bad n s'/\s'.need c.retries=s.need c.retries:=by
  have hl:=bones_l hb
  have hr:s'.rest=s.rest:=by unfold Ts.rest;rw[hl,e2]
  have hmem:∀x∈s'.segs,∃y∈s.segs,y.bones=x.bones:=λx hx=>by
    have:x.bones∈s.segs.map Sm.bones:=by rw[<-hb];exact List.mem_map_of_mem hx
    exact List.mem_map.1 this
  refine⟨⟨by rw[e1,hr];exact h.ord,by rw[e1];exact h.knd,by rw[hl];exact h.eds,by rw[e2];exact h.que,by rw[hr,e3];exact h.tip,by rw[hr];exact h.apart,λx m e=>?_,λx hx=>?_⟩,?_⟩
  · rw[e] at hb
    cases hs:s.segs with
    |nil=>rw[hs] at hb;cases hb
    |cons y m0=>
      rw[hs,List.map_cons,List.map_cons] at hb
      injection hb with hb1 hb2
      obtain⟨hT,hB⟩:=h.first y m0 hs
      have q1:x.l=y.l:=congrArg Prod.fst hb1
      have q2:x.fails=y.fails:=congrArg (λz=>z.2.1) hb1
      have q3:x.by_=y.by_:=congrArg (λz=>z.2.2) hb1
      refine⟨⟨by rw[q3,q1];exact hT.1,by rw[q2,q1];exact hT.2⟩,λz hz=>?_⟩
      have:z.bones∈m0.map Sm.bones:=by rw[<-hb2];exact List.mem_map_of_mem hz
      obtain⟨u,hu,eu⟩:=List.mem_map.1 this
      have u2:u.fails=z.fails:=congrArg (λz=>z.2.1) eu
      have u3:u.by_=z.by_:=congrArg (λz=>z.2.2) eu
      rw[<-u2,<-u3];exact hB u hu
  · obtain⟨y,hy,e⟩:=hmem x hx
    have q1:y.l=x.l:=congrArg Prod.fst e
    rw[<-q1];exact h.ne y hy
  · unfold Ts.need
    rw[bones_need hb,e2]
def Tests (c:Cfg)(s:Ts):Prop:=∃f m j,s.segs=f::m/\f.by_=0/\f.fails<=c.retries/\f.job=some j
theorem Bz.pump {c:Cfg}{P:Nat->ByteArray}{bad:Nat->Bool}{n:Nat}{s:Ts}(h:Bz c P bad n s)(hI:s.Inv c)(hc:c.Ok):Bz c P bad n (s.pump c)/\(s.pump c).need c.retries<=s.need c.retries/\((s.pump c).rest=[]\/Tests c (s.pump c)):=by
  have hK:=Ts.run_keeps (c:=c) (I:=λt=>Bz c P bad n t/\t.need c.retries<=s.need c.retries) (λa b ha hi hs=>by
    obtain⟨h1,h2⟩:=ha.1.step hi hc hs
    exact⟨h1,Nat.le_trans h2 ha.2⟩) hc s.mu hI ⟨h,Nat.le_refl _⟩
  have hE:=Ts.run_end hc s.mu hI (Nat.le_refl _)
  have hp:s.pump c=(s.run c s.mu).begin c:=rfl
  rw[hp]
  generalize s.run c s.mu=t at hK hE
  obtain⟨hB,hN⟩:=hK
  obtain⟨h1,h2⟩:=hB.bones (s':=t.begin c) rfl rfl rfl (begins_bones _ _ _ _)
  refine⟨h1,by rw[h2];exact hN,?_⟩
  unfold Ts.step at hE
  split at hE
  · rename_i e
    split at hE
    · rename_i hq
      left
      have e2:(t.begin c).segs=[]:=by
        show (begins c t.now c.window t.segs t.tip t.begun).1=[]
        have:=begins_bones (c:=c) (now:=t.now) c.window t.segs t.tip t.begun
        rw[e] at this
        rw[e]
        exact List.map_eq_nil_iff.1 this
      unfold Ts.rest
      rw[e2]
      show []++t.queue.map Ch.id=[]
      rw[List.isEmpty_iff.1 hq];rfl
    · cases hE
  · rename_i f m e
    split at hE
    · cases hE
    split at hE
    · cases hE
    split at hE
    · cases hE
    split at hE
    · cases hE
    rename_i q1 q2 q3 q4
    right
    obtain⟨r,hr⟩:∃r,c.window=r+1:=⟨c.window-1,by have:=hc.2.2.2.1.1;omega⟩
    obtain⟨x',l',a1,a2,⟨j,a3⟩,a4⟩:=begins_first (now:=t.now) (r:=r) (l:=m) (b:=t.begun) q2 q4 (by simpa using q3)
    refine⟨x',l',j,?_,?_,?_,a3⟩
    · show (begins c t.now c.window t.segs t.tip t.begun).1=_
      rw[e,hr];exact a1
    · rw[show x'.by_=f.by_ from congrArg (λz=>z.2.2) a2];simpa using q3
    · rw[show x'.fails=f.fails from congrArg (λz=>z.2.1) a2];omega
def clean (bad:Nat->Bool)(x:Sm):Bool:= !x.l.any λy=>bad y.1
theorem clean_yes {bad:Nat->Bool}{x:Sm}(h:clean bad x=true):∀y∈x.l,bad y.1=false:=by
  unfold clean at h
  rw[Bool.not_eq_true',List.any_eq_false] at h
  exact λy hy=>by simpa using h y hy
theorem clean_no {bad:Nat->Bool}{x:Sm}(h:clean bad x=false):∃y∈x.l,bad y.1=true:=by
  unfold clean at h
  rw[Bool.not_eq_false',List.any_eq_true] at h
  exact h
theorem answer_first {c:Cfg}{s:Ts}{f:Sm}{m:List Sm}{j:Jb}(hI:s.Inv c)(e:s.segs=f::m)(hj:f.job=some j)(pass:Bool):s.answer j.num pass={s with segs:=f.ends pass j.num::m}:=by
  have hp:=hI.jobs
  rw[e,List.pairwise_cons] at hp
  have h1:f.runs j.num=true:=by rw[Sm.runs_iff];exact⟨j,hj,rfl⟩
  have h2:∀z∈m,z.runs j.num=false:=λz hz=>by
    cases hr:z.runs j.num
    · rfl
    · obtain⟨k,hk,ek⟩:=(Sm.runs_iff z j.num).1 hr
      exact absurd ek.symm (hp.1 z hz j k hj hk)
  unfold Ts.answer
  rw[e,List.map_cons,h1]
  have h3:m.map (λx=>if x.runs j.num then x.ends pass j.num else x)=m:=by
    rw[List.map_congr_left (g:=λx=>x) λz hz=>by rw[h2 z hz];rfl]
    exact List.map_id' m
  rw[h3];rfl
theorem Bz.answer {c:Cfg}{P:Nat->ByteArray}{bad:Nat->Bool}{n:Nat}{s:Ts}{f:Sm}{m:List Sm}{j:Jb}(h:Bz c P bad n s)(hI:s.Inv c)(e:s.segs=f::m)(hb:f.by_=0)(hf:f.fails<=c.retries)(hj:f.job=some j):Bz c P bad n (s.answer j.num (clean bad f))/\(s.answer j.num (clean bad f)).need c.retries+1<=s.need c.retries:=by
  rw[answer_first hI e hj]
  obtain⟨hT,hB⟩:=h.first f m e
  have hfn:f.l≠[]:=h.ne f (by rw[e];exact List.mem_cons_self)
  have hfl:0<f.l.length:=List.length_pos_iff.2 hfn
  have hl:∀p k,(f.ends p k).l=f.l:=λp k=>Sm.ends_l f p k
  have hflat:(f.ends (clean bad f) j.num::m).flatMap Sm.l=s.segs.flatMap Sm.l:=by rw[e,List.flatMap_cons,List.flatMap_cons,hl]
  have hr:({s with segs:=f.ends (clean bad f) j.num::m}:Ts).rest=s.rest:=by
    unfold Ts.rest
    show ((f.ends (clean bad f) j.num::m).flatMap Sm.l).map Prod.fst++s.queue.map Ch.id=_
    rw[hflat]
  have hneed:needs c.retries f=(c.retries+1)*(2*f.l.length-1)-f.fails:=by unfold needs;rw[if_pos hb]
  have hge:c.retries+1<=(c.retries+1)*(2*f.l.length-1):=Nat.le_mul_of_pos_right _ (by omega)
  refine⟨⟨by rw[hr];exact h.ord,h.knd,λy hy=>h.eds y (by rw[<-hflat];exact hy),h.que,by rw[hr];exact h.tip,by rw[hr];exact h.apart,λx m' e2=>?_,λx hx=>?_⟩,?_⟩
  · cases (show f.ends (clean bad f) j.num::m=x::m' from e2)
    refine⟨?_,hB⟩
    unfold Told1
    rw[hl]
    unfold Sm.ends
    cases hcl:clean bad f
    · exact⟨λh=>absurd hb h,λ_=>clean_no hcl⟩
    · exact⟨λ_=>clean_yes hcl,hT.2⟩
  · rcases List.mem_cons.1 (show x∈f.ends (clean bad f) j.num::m from hx) with rfl|hx
    · rw[hl];exact hfn
    · exact h.ne x (by rw[e];exact List.mem_cons_of_mem _ hx)
  · unfold Ts.need
    show needAll c.retries (f.ends (clean bad f) j.num::m)+(c.retries+1)*(2*s.queue.length)+1<=_
    rw[e,needAll_cons,needAll_cons,hneed]
    have hjn:=((hI.sm f (by rw[e];exact List.mem_cons_self)).job j hj).2.2.1
    have:needs c.retries (f.ends (clean bad f) j.num)+1<=(c.retries+1)*(2*f.l.length-1)-f.fails:=by
      unfold needs
      rw[hl]
      unfold Sm.ends
      cases clean bad f
      · show (if f.by_=0 then (c.retries+1)*(2*f.l.length-1)-(f.fails+1) else 0)+1<=_
        rw[if_pos hb];omega
      · show (if j.num=0 then _ else 0)+1<=_
        rw[if_neg (by omega)];omega
    omega
theorem Bz.busy {c:Cfg}{P:Nat->ByteArray}{bad:Nat->Bool}{n:Nat}{s:Ts}(h:Bz c P bad n s)(ht:Tests c s):1<=s.need c.retries/\s.rest≠[]:=by
  obtain⟨f,m,j,e,hb,hf,hj⟩:=ht
  have hfn:f.l≠[]:=h.ne f (by rw[e];exact List.mem_cons_self)
  have hfl:0<f.l.length:=List.length_pos_iff.2 hfn
  have hge:c.retries+1<=(c.retries+1)*(2*f.l.length-1):=Nat.le_mul_of_pos_right _ (by omega)
  constructor
  · unfold Ts.need
    rw[e,needAll_cons]
    unfold needs
    rw[if_pos hb]
    omega
  · unfold Ts.rest
    rw[e,List.flatMap_cons]
    intro e2
    have:=congrArg List.length e2
    simp only[List.length_append,List.length_map,List.length_nil] at this
    omega
theorem Bz.sub {c:Cfg}{P:Nat->ByteArray}{bad:Nat->Bool}{n:Nat}{s:Ts}(h:Bz c P bad n s)(hs:s.segs=[])(ho:s.outs=[(1000000,1)])(hne:∀i,1<=i->i<=n->P i≠P (n+1))(ht:s.tip (P (n+1))=⟨#[]⟩):Bz c P bad (n+1) {s with ids:=s.ids++[n+1],queue:=s.queue++[⟨n+1,0,0,s.ids.length,pe (P (n+1))⟩]}:=by
  have hr0:s.rest=s.queue.map Ch.id:=by unfold Ts.rest;rw[hs];rfl
  have hr:({s with ids:=s.ids++[n+1],queue:=s.queue++[⟨n+1,0,0,s.ids.length,pe (P (n+1))⟩]}:Ts).rest=s.rest++[n+1]:=by
    rw[hr0]
    unfold Ts.rest
    show (s.segs.flatMap Sm.l).map Prod.fst++(s.queue++[_]).map Ch.id=_
    rw[hs,List.map_append];rfl
  have hrest:s.rest=List.range' 1 n:=by
    have:=h.ord
    rw[ho] at this
    exact(List.cons.inj this).2
  refine⟨?_,h.knd,h.eds,λx hx=>?_,λi hi=>?_,?_,h.first,h.ne⟩
  · rw[hr,<-List.append_assoc,h.ord,List.cons_append]
    congr 1
    rw[List.range'_concat];simp[Nat.add_comm]
  · rcases List.mem_append.1 (show x∈s.queue++[_] from hx) with hx|hx
    · exact h.que x hx
    · rw[List.mem_singleton.1 hx];exact⟨rfl,rfl⟩
  · rw[hr] at hi
    rcases List.mem_append.1 hi with hi|hi
    · exact h.tip i hi
    · rw[List.mem_singleton.1 hi];exact ht
  · rw[hr,List.pairwise_append]
    refine⟨h.apart,List.pairwise_singleton _ _,λi hi k hk=>?_⟩
    rw[List.mem_singleton.1 hk]
    rw[hrest,List.mem_range'_1] at hi
    exact hne i hi.1 (by omega)
end Go.Proofs.YtgamgomepdfgdaaGreat
