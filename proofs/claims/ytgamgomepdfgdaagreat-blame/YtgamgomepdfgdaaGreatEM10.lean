import Derived.Test.YtgamgomepdfgdaaGreatEM09
set_option maxRecDepth 100000
set_option maxHeartbeats 8000000
namespace Go.Proofs.YtgamgomepdfgdaaGreat
open Go.RowKit Go.Proofs.Tryz
abbrev Cg:=Nat×List Ed
structure Jb where
  num:Nat
  til:Nat
  files:ByteArray->ByteArray
structure Sm where
  l:List Cg
  fails:Nat
  by_:Nat
  job:Option Jb
def Sm.new (l:List Cg):Sm:=⟨l,0,0,none⟩
def Sm.renew (x:Sm):Sm:=Sm.new x.l
structure Ts where
  ids:List Nat
  queue:List Ch
  outs:List (Nat×Nat)
  acked:Nat
  tip:ByteArray->ByteArray
  main:List (Nat×List Nat)
  segs:List Sm
  begun:Nat
  now:Nat
def Ts.start (g:ByteArray->ByteArray):Ts:=⟨[],[],[],0,g,[],[],0,0⟩
def appOn (g:ByteArray->ByteArray)(es:List Ed):Bool:=es.all λe=>(g e.1).toList==e.2.1.toList
theorem appOn_iff (g:ByteArray->ByteArray)(es:List Ed):appOn g es=true↔∀e∈es,g e.1=e.2.1:=by
  unfold appOn
  rw[List.all_eq_true]
  exact forall_congr' λe=>imp_congr_right λ_=>beq_true_iff _ _
def makes (g:ByteArray->ByteArray):List Cg->(ByteArray->ByteArray)×Nat
  |[]=>(g,0)
  |x::l=>if appOn g x.2 then ((makes (edited g x.2) l).1,(makes (edited g x.2) l).2+1) else (g,0)
theorem makes_le:∀(l:List Cg) (g:ByteArray->ByteArray),(makes g l).2<=l.length
  |[],g=>Nat.le_refl _
  |x::l,g=>by
    unfold makes
    split
    · have:=makes_le l (edited g x.2)
      simpa using this
    · simp
def after (g:ByteArray->ByteArray)(l:List Cg):ByteArray->ByteArray:=l.foldl (λg x=>edited g x.2) g
theorem after_snoc (g:ByteArray->ByteArray)(l:List Cg)(x:Cg):after g (l++[x])=edited (after g l) x.2:=by simp[after]
theorem makes_snoc_no:∀(l:List Cg) (g:ByteArray->ByteArray) (x:Cg) (m:List Cg),(makes g l).2=l.length->appOn (after g l) x.2=false->(makes g (l++x::m)).2=l.length
  |[],g,x,m,_,h=>by
    have h':appOn g x.2=false:=h
    simp[makes,h']
  |y::l,g,x,m,h,hx=>by
    unfold makes at h ⊢
    rw[List.cons_append]
    by_cases hy:appOn g y.2=true
    · simp only[hy,if_true,List.length_cons,Nat.add_right_cancel_iff] at h ⊢
      exact makes_snoc_no l (edited g y.2) x m h hx
    · simp[hy] at h
theorem makes_snoc_yes:∀(l:List Cg) (g:ByteArray->ByteArray) (x:Cg),(makes g l).2=l.length->appOn (after g l) x.2=true->(makes g (l++[x])).2=l.length+1
  |[],g,x,_,h=>by
    have h':appOn g x.2=true:=h
    simp[makes,h']
  |y::l,g,x,h,hx=>by
    unfold makes at h ⊢
    rw[List.cons_append]
    by_cases hy:appOn g y.2=true
    · simp only[hy,if_true,List.length_cons,Nat.add_right_cancel_iff] at h ⊢
      exact makes_snoc_yes l (edited g y.2) x h hx
    · simp[hy] at h
theorem makes_all:∀(l:List Cg) (g:ByteArray->ByteArray),(makes g l).2=l.length->(makes g l).1=after g l
  |[],g,_=>rfl
  |y::l,g,h=>by
    unfold makes at h ⊢
    by_cases hy:appOn g y.2=true
    · simp only[hy,if_true,List.length_cons,Nat.add_right_cancel_iff] at h ⊢
      exact makes_all l (edited g y.2) h
    · simp[hy] at h
def laneC (age:Nat)(x:Ch):Nat:=x.lane-x.passed/age
def Ts.ranked (c:Cfg)(s:Ts):List Ch:=rkG (laneC c.age) s.queue 4
def Ch.up (x:Ch):Ch:={x with passed:=x.passed+1}
def Ch.cg (x:Ch):Cg:=(x.id,x.edits)
def Ts.pick (c:Cfg)(s:Ts):Ts:=
  {s with segs:=[Sm.new (((s.ranked c).take c.batch).map Ch.cg),],queue:=(s.queue.filter λx=> !((s.ranked c).take c.batch).any λy=>y.id==x.id).map Ch.up}
def newIf (l:List Cg):List Sm:=if l.isEmpty then [] else [Sm.new l]
def Ts.conflict (s:Ts)(f:Sm)(m:List Sm):Ts:={s with outs:=s.outs++(f.l.take 1).map λx=>(x.1,3),segs:=newIf (f.l.drop 1)++m}
def Ts.split (s:Ts)(f:Sm)(k:Nat)(m:List Sm):Ts:={s with segs:=Sm.new (f.l.take k)::Sm.new (f.l.drop k)::m}
def Ts.land (s:Ts)(f:Sm)(m:List Sm):Ts:=
  {s with tip:=(makes s.tip f.l).1,outs:=s.outs++f.l.map λx=>(x.1,1),main:=s.main++[(f.by_,f.l.map Prod.fst)],segs:=m}
def Ts.blame (s:Ts)(f:Sm)(m:List Sm):Ts:=
  if 1<f.l.length then s.split f ((f.l.length+1)/2) (m.map Sm.renew)
  else {s with outs:=s.outs++(f.l.take 1).map λx=>(x.1,2),segs:=m.map Sm.renew}
def Ts.step (c:Cfg)(s:Ts):Option Ts:=
  match s.segs with
  |[]=>if s.queue.isEmpty then none else some (s.pick c)
  |f::m=>
    if (makes s.tip f.l).2=0 then some (s.conflict f m)
    else if (makes s.tip f.l).2<f.l.length then some (s.split f (makes s.tip f.l).2 m)
    else if f.by_≠0 then some (s.land f m)
    else if c.retries<f.fails then some (s.blame f m)
    else none
def Ts.run (c:Cfg):Nat->Ts->Ts
  |0,s=>s
  |n+1,s=>match s.step c with
    |none=>s
    |some s'=>s'.run c n
def begins (c:Cfg)(now:Nat):Nat->List Sm->(ByteArray->ByteArray)->Nat->List Sm×Nat
  |0,l,_,b=>(l,b)
  |_+1,[],_,b=>([],b)
  |r+1,x::l,g,b=>
    if (makes g x.l).2<x.l.length\/c.retries<x.fails then (x::l,b)
    else if x.by_=0/\x.job.isNone=true then
      ({x with job:=some ⟨b+1,now+c.deadline,(makes g x.l).1⟩}::(begins c now r l (makes g x.l).1 (b+1)).1,(begins c now r l (makes g x.l).1 (b+1)).2)
    else (x::(begins c now r l (makes g x.l).1 b).1,(begins c now r l (makes g x.l).1 b).2)
def Ts.begin (c:Cfg)(s:Ts):Ts:={s with segs:=(begins c s.now c.window s.segs s.tip s.begun).1,begun:=(begins c s.now c.window s.segs s.tip s.begun).2}
def trainLen (l:List Sm):Nat:=(l.map λx=>x.l.length).sum
def Ts.mu (s:Ts):Nat:=3*s.queue.length+(s.segs.map λx=>2*x.l.length-1).sum
def Ts.pump (c:Cfg)(s:Ts):Ts:=(s.run c s.mu).begin c
def Sm.ends (x:Sm)(pass:Bool)(num:Nat):Sm:=if pass then {x with by_:=num,job:=none} else {x with fails:=x.fails+1,job:=none}
def Sm.runs (x:Sm)(num:Nat):Bool:=match x.job with|some j=>j.num==num|none=>false
def Ts.answer (s:Ts)(num:Nat)(pass:Bool):Ts:={s with segs:=s.segs.map λx=>if x.runs num then x.ends pass num else x}
def Sm.due (x:Sm)(now:Nat):Bool:=match x.job with|some j=>decide (j.til<=now)|none=>false
def Ts.tick (s:Ts)(n:Nat):Ts:={s with now:=s.now+n,segs:=s.segs.map λx=>if x.due (s.now+n) then x.ends false 0 else x}
def Ts.lose (s:Ts):Ts:={s with segs:=s.segs.map λx=>{x with job:=none}}
def Ts.does (c:Cfg)(s:Ts)(r:Rc):Ts:=
  if r.kind=1 then {s with ids:=s.ids++[r.num],queue:=s.queue++[⟨r.num,r.lane,0,s.ids.length,r.edits⟩]}
  else if r.kind=2 then {s with queue:=s.queue.filter λx=>x.id !=r.num,outs:=s.outs++[(r.num,4)]}
  else if r.kind=3 then s.pump c
  else if r.kind=4 then s.answer r.num r.pass
  else if r.kind=5 then s.tick r.num
  else if r.kind=6 then {s with acked:=s.acked+1}
  else s.lose
def Ts.all (c:Cfg)(g:ByteArray->ByteArray)(rs:List Rc):Ts:=rs.foldl (Ts.does c) (Ts.start g)
theorem Ts.all_snoc (c:Cfg)(g:ByteArray->ByteArray)(rs:List Rc)(r:Rc):Ts.all c g (rs++[r])=(Ts.all c g rs).does c r:=by simp[Ts.all]
structure Ts.Can (c:Cfg)(s:Ts)(r:Rc):Prop where
  kind:1<=r.kind/\r.kind<=7
  num:r.num<=9223372036854775807
  sub:r.kind=1->r.num<=1000000/\r.num∉s.ids/\s.queue.length<c.queue/\r.lane<c.lanes/\EditsOK r.edits
  cancel:r.kind=2->∃x∈s.queue,x.id=r.num
  ans:r.kind=4->∃x∈s.segs,x.runs r.num=true
  tick:r.kind=5->1<=r.num/\r.num<=1000
  ack:r.kind=6->s.acked<s.outs.length
structure SmOk (c:Cfg)(begun now:Nat)(x:Sm):Prop where
  ne:x.l≠[]
  eds:∀y∈x.l,y.1<=1000000/\EditsOK y.2
  fails:x.fails<=c.retries+1
  by_:x.by_<=begun
  job:∀j,x.job=some j->x.fails<=c.retries/\x.by_=0/\1<=j.num/\j.num<=begun/\j.til<=now+c.deadline
def JobsNe (x y:Sm):Prop:=∀j k,x.job=some j->y.job=some k->j.num≠k.num
structure Ts.Inv (c:Cfg)(s:Ts):Prop where
  len:s.queue.length<=c.queue
  ord:s.queue.Pairwise λx y=>x.ord<y.ord
  top:∀x∈s.queue,x.ord<s.ids.length/\x.lane<c.lanes/\x.passed+s.queue.length<=s.ids.length/\x.id<=1000000/\EditsOK x.edits
  nd:(s.queue.map Ch.id).Nodup
  inn:∀x∈s.queue,x.id∈s.ids
  ack:s.acked<=s.outs.length
  cnt:s.outs.length+s.queue.length+trainLen s.segs=s.ids.length
  main:s.main.length<=s.outs.length
  tr:trainLen s.segs<=8
  sm:∀x∈s.segs,SmOk c s.begun s.now x
  jobs:s.segs.Pairwise JobsNe
theorem Ts.Inv.start (c:Cfg)(g:ByteArray->ByteArray):Ts.Inv c (Ts.start g):=
  ⟨by simp[Ts.start],by simp[Ts.start],by simp[Ts.start],by simp[Ts.start],by simp[Ts.start],by simp[Ts.start],by simp[Ts.start,trainLen],by simp[Ts.start],by simp[Ts.start,trainLen],by simp[Ts.start],by simp[Ts.start]⟩
theorem Ts.Inv.ranked {c:Cfg}{s:Ts}(h:s.Inv c)(hc:c.Ok):(s.ranked c).Perm s.queue:=rkG_perm λx hx=>by
  have h1:=(h.top x hx).2.1
  have h2:=hc.1.2
  unfold laneC
  have:x.lane-x.passed/c.age<=x.lane:=Nat.sub_le _ _
  omega
theorem left_drop {l:List Ch}(h:(l.map Ch.id).Nodup)(k:Nat):(l.filter λx=> !(l.take k).any λy=>y.id==x.id)=l.drop k:=by
  have e:∀p:Ch->Bool,l.filter p=(l.take k).filter p++(l.drop k).filter p:=λp=>by rw[<-List.filter_append,List.take_append_drop]
  rw[e]
  have h1:((l.take k).filter λx=> !(l.take k).any λy=>y.id==x.id)=[]:=by
    rw[List.filter_eq_nil_iff]
    intro x hx
    simp only[Bool.not_eq_true',Bool.not_eq_false,List.any_eq_true]
    exact⟨x,hx,by simp⟩
  have h2:((l.drop k).filter λx=> !(l.take k).any λy=>y.id==x.id)=l.drop k:=by
    rw[List.filter_eq_self]
    intro x hx
    rw[Bool.not_eq_true',List.any_eq_false]
    intro y hy
    have h':((l.take k).map Ch.id++(l.drop k).map Ch.id).Nodup:=by rw[<-List.map_append,List.take_append_drop];exact h
    have:=(List.nodup_append.1 h').2.2 y.id (List.mem_map_of_mem hy) x.id (List.mem_map_of_mem hx)
    simpa using this
  rw[h1,h2,List.nil_append]
theorem Ts.Inv.left {c:Cfg}{s:Ts}(h:s.Inv c)(hc:c.Ok)(k:Nat):(s.queue.filter λx=> !((s.ranked c).take k).any λy=>y.id==x.id).Perm ((s.ranked c).drop k):=by
  have hp:=h.ranked hc
  have hn:((s.ranked c).map Ch.id).Nodup:=(hp.map Ch.id).nodup_iff.2 h.nd
  have:=left_drop hn k
  exact(hp.symm.filter _).trans (this▸List.Perm.refl _)
theorem trainLen_cons (x:Sm)(l:List Sm):trainLen (x::l)=x.l.length+trainLen l:=by simp[trainLen]
theorem trainLen_append (a b:List Sm):trainLen (a++b)=trainLen a+trainLen b:=by simp[trainLen]
theorem trainLen_renew (l:List Sm):trainLen (l.map Sm.renew)=trainLen l:=by simp[trainLen,Sm.renew,Sm.new,Function.comp_def]
def muS (l:List Sm):Nat:=(l.map λx=>2*x.l.length-1).sum
theorem muS_cons (x:Sm)(l:List Sm):muS (x::l)=(2*x.l.length-1)+muS l:=by simp[muS]
theorem muS_append (a b:List Sm):muS (a++b)=muS a+muS b:=by simp[muS]
theorem muS_renew (l:List Sm):muS (l.map Sm.renew)=muS l:=by simp[muS,Sm.renew,Sm.new,Function.comp_def]
theorem Ts.mu_eq (s:Ts):s.mu=3*s.queue.length+muS s.segs:=rfl
theorem SmOk.new {c:Cfg}{b n:Nat}{l:List Cg}(h:l≠[])(he:∀y∈l,y.1<=1000000/\EditsOK y.2):SmOk c b n (Sm.new l):=⟨h,he,Nat.zero_le _,Nat.zero_le _,λj hj=>by cases hj⟩
theorem SmOk.renew {c:Cfg}{b n:Nat}{x:Sm}(h:SmOk c b n x):SmOk c b n x.renew:=SmOk.new h.ne h.eds
theorem JobsNe.new_left {l:List Cg}{y:Sm}:JobsNe (Sm.new l) y:=λj k hj _=>by cases hj
theorem renew_jobs (m:List Sm):(m.map Sm.renew).Pairwise JobsNe:=by
  rw[List.pairwise_map]
  exact List.Pairwise.imp (fun {a b} (_:True)=>JobsNe.new_left) (List.pairwise_of_forall λ_ _=>trivial)
theorem mem_newIf {l:List Cg}{x:Sm}(h:x∈newIf l):x=Sm.new l/\l≠[]:=by
  unfold newIf at h
  split at h
  · simp at h
  · rename_i hn
    exact⟨by simpa using h,λe=>hn (by simp[e])⟩
theorem newIf_len (l:List Cg):trainLen (newIf l)=l.length:=by
  unfold newIf
  split
  · rename_i h
    rw[List.isEmpty_iff.1 h];rfl
  · simp[trainLen,Sm.new]
theorem newIf_mu (l:List Cg):muS (newIf l)=2*l.length-1:=by
  unfold newIf
  split
  · rename_i h
    rw[List.isEmpty_iff.1 h];rfl
  · simp[muS,Sm.new]
theorem newIf_jobs {l:List Cg}{m:List Sm}(h:m.Pairwise JobsNe):(newIf l++m).Pairwise JobsNe:=by
  unfold newIf
  split
  · simpa using h
  · rw[List.singleton_append,List.pairwise_cons]
    exact⟨λ_ _=>JobsNe.new_left,h⟩
theorem Ts.Inv.pick {c:Cfg}{s:Ts}(h:s.Inv c)(hc:c.Ok)(he:s.segs=[])(hq:s.queue≠[]):(s.pick c).Inv c/\(s.pick c).mu<s.mu:=by
  have hp:=h.ranked hc
  have hl:=h.left hc c.batch
  have hlen:=hl.length_eq
  rw[List.length_drop,hp.length_eq] at hlen
  have hb:=hc.2.2.1
  have hpos:0<s.queue.length:=List.length_pos_iff.2 hq
  have hk:(((s.ranked c).take c.batch).map Ch.cg).length=min c.batch s.queue.length:=by rw[List.length_map,List.length_take,hp.length_eq]
  have hcnt:=h.cnt
  rw[he] at hcnt
  have ht0:trainLen ([]:List Sm)=0:=rfl
  have hql:(s.pick c).queue.length=s.queue.length-c.batch:=by
    show ((s.queue.filter _).map Ch.up).length=_
    rw[List.length_map,hlen]
  refine⟨⟨?_,?_,λx hx=>?_,?_,λx hx=>?_,h.ack,?_,h.main,?_,λx hx=>?_,?_⟩,?_⟩
  · rw[hql];have:=h.len;omega
  · show ((s.queue.filter _).map Ch.up).Pairwise _
    rw[List.pairwise_map]
    exact(h.ord.filter _).imp λh=>h
  · rw[hql]
    obtain⟨y,hy,rfl⟩:=List.mem_map.1 hx
    obtain⟨h1,h2,h3,h4,h5⟩:=h.top y (List.mem_filter.1 hy).1
    refine⟨h1,h2,?_,h4,h5⟩
    show y.passed+1+_<=s.ids.length
    omega
  · show (((s.queue.filter _).map Ch.up).map Ch.id).Nodup
    rw[List.map_map]
    exact List.Sublist.nodup (List.Sublist.map Ch.id (List.filter_sublist ..)) h.nd
  · obtain⟨y,hy,rfl⟩:=List.mem_map.1 hx
    exact h.inn y (List.mem_filter.1 hy).1
  · rw[hql]
    show s.outs.length+_+trainLen [Sm.new _]=s.ids.length
    rw[trainLen_cons]
    show _+(((s.ranked c).take c.batch).map Ch.cg).length+trainLen []=_
    rw[hk,ht0]
    rw[ht0] at hcnt
    omega
  · show trainLen [Sm.new _]<=8
    rw[trainLen_cons]
    show (((s.ranked c).take c.batch).map Ch.cg).length+trainLen []<=_
    rw[hk,ht0]
    omega
  · obtain rfl:=List.mem_singleton.1 hx
    refine SmOk.new (λe=>?_) λy hy=>?_
    · rw[e] at hk
      simp only[List.length_nil] at hk
      omega
    · obtain⟨z,hz,rfl⟩:=List.mem_map.1 hy
      have:=h.top z (hp.mem_iff.1 (List.mem_of_mem_take hz))
      exact⟨this.2.2.2.1,this.2.2.2.2⟩
  · show [Sm.new _].Pairwise JobsNe
    simp
  · rw[Ts.mu_eq,Ts.mu_eq,hql,he]
    show _+muS [Sm.new _]<_
    rw[muS_cons]
    show _+((2*(((s.ranked c).take c.batch).map Ch.cg).length-1)+muS [])<_
    rw[hk]
    have:muS ([]:List Sm)=0:=rfl
    omega
theorem Ts.Inv.conflict {c:Cfg}{s:Ts}{f:Sm}{m:List Sm}(h:s.Inv c)(e:s.segs=f::m):(s.conflict f m).Inv c/\(s.conflict f m).mu<s.mu:=by
  have hf:=h.sm f (by rw[e];simp)
  obtain⟨y,l,el⟩:=List.exists_cons_of_ne_nil hf.ne
  have hcnt:=h.cnt
  have htr:=h.tr
  have hj:=h.jobs
  rw[e,trainLen_cons,el] at hcnt htr
  rw[e,List.pairwise_cons] at hj
  have hs:(s.conflict f m).segs=newIf l++m:=by show newIf (f.l.drop 1)++m=_;rw[el];rfl
  have ho:(s.conflict f m).outs=s.outs++[(y.1,3)]:=by show s.outs++(f.l.take 1).map _=_;rw[el];rfl
  simp only[List.length_cons] at hcnt htr
  refine⟨⟨h.len,h.ord,h.top,h.nd,h.inn,?_,?_,?_,?_,λx hx=>?_,?_⟩,?_⟩
  · rw[ho,List.length_append];exact Nat.le_trans h.ack (Nat.le_add_right _ _)
  · rw[ho,hs,List.length_append,trainLen_append,newIf_len]
    show _+s.queue.length+_=s.ids.length
    simp only[List.length_cons,List.length_nil]
    omega
  · rw[ho,List.length_append];exact Nat.le_trans h.main (Nat.le_add_right _ _)
  · rw[hs,trainLen_append,newIf_len];omega
  · rw[hs] at hx
    rcases List.mem_append.1 hx with hx|hx
    · obtain⟨rfl,hn⟩:=mem_newIf hx
      exact SmOk.new hn λz hz=>hf.eds z (by rw[el];simp[hz])
    · exact h.sm x (by rw[e];simp[hx])
  · rw[hs];exact newIf_jobs hj.2
  · rw[Ts.mu_eq,Ts.mu_eq,hs,e,muS_append,newIf_mu,muS_cons,el]
    show 3*s.queue.length+_<_
    simp only[List.length_cons]
    omega
theorem Ts.Inv.split {c:Cfg}{s:Ts}{f:Sm}{m m':List Sm}{k:Nat}(h:s.Inv c)(e:s.segs=f::m)(h0:0<k)(hk:k<f.l.length)(ht:trainLen m'=trainLen m)(hm:muS m'=muS m)(hj':m'.Pairwise JobsNe)(hs':∀x∈m',SmOk c s.begun s.now x):
    (s.split f k m').Inv c/\(s.split f k m').mu<s.mu:=by
  have hf:=h.sm f (by rw[e];simp)
  have hcnt:=h.cnt
  have htr:=h.tr
  rw[e,trainLen_cons] at hcnt htr
  have hs:(s.split f k m').segs=Sm.new (f.l.take k)::Sm.new (f.l.drop k)::m':=rfl
  have l1:(Sm.new (f.l.take k)).l.length=k:=by show (f.l.take k).length=k;rw[List.length_take];omega
  have l2:(Sm.new (f.l.drop k)).l.length=f.l.length-k:=by show (f.l.drop k).length=_;rw[List.length_drop]
  refine⟨⟨h.len,h.ord,h.top,h.nd,h.inn,h.ack,?_,h.main,?_,λx hx=>?_,?_⟩,?_⟩
  · show s.outs.length+s.queue.length+_=s.ids.length
    rw[hs,trainLen_cons,trainLen_cons,l1,l2];omega
  · rw[hs,trainLen_cons,trainLen_cons,l1,l2];omega
  · rw[hs] at hx
    rcases List.mem_cons.1 hx with rfl|hx
    · refine SmOk.new (λe2=>?_) λz hz=>hf.eds z (List.mem_of_mem_take hz)
      have:(f.l.take k).length=0:=by rw[e2];rfl
      rw[List.length_take] at this;omega
    rcases List.mem_cons.1 hx with rfl|hx
    · refine SmOk.new (λe2=>?_) λz hz=>hf.eds z (List.mem_of_mem_drop hz)
      have:(f.l.drop k).length=0:=by rw[e2];rfl
      rw[List.length_drop] at this;omega
    · exact hs' x hx
  · rw[hs,List.pairwise_cons,List.pairwise_cons]
    exact⟨λ_ _=>JobsNe.new_left,λ_ _=>JobsNe.new_left,hj'⟩
  · rw[Ts.mu_eq,Ts.mu_eq,hs,e,muS_cons,muS_cons,muS_cons,l1,l2]
    show 3*s.queue.length+_<_
    omega
theorem Ts.Inv.land {c:Cfg}{s:Ts}{f:Sm}{m:List Sm}(h:s.Inv c)(e:s.segs=f::m):(s.land f m).Inv c/\(s.land f m).mu<s.mu:=by
  have hf:=h.sm f (by rw[e];simp)
  have hpos:0<f.l.length:=List.length_pos_iff.2 hf.ne
  have hcnt:=h.cnt
  have htr:=h.tr
  have hj:=h.jobs
  rw[e,trainLen_cons] at hcnt htr
  rw[e,List.pairwise_cons] at hj
  have hs:(s.land f m).segs=m:=rfl
  have ho:(s.land f m).outs.length=s.outs.length+f.l.length:=by show (s.outs++f.l.map _).length=_;simp
  have hma:(s.land f m).main.length=s.main.length+1:=by show (s.main++[_]).length=_;simp
  refine⟨⟨h.len,h.ord,h.top,h.nd,h.inn,?_,?_,?_,?_,λx hx=>h.sm x (by rw[e];simp[show x∈m from hx]),hj.2⟩,?_⟩
  · rw[ho];exact Nat.le_trans h.ack (Nat.le_add_right _ _)
  · rw[ho,hs]
    show _+s.queue.length+_=s.ids.length
    omega
  · rw[ho,hma];have:=h.main;omega
  · rw[hs];omega
  · rw[Ts.mu_eq,Ts.mu_eq,hs,e,muS_cons]
    show 3*s.queue.length+_<_
    omega
theorem Ts.Inv.blame {c:Cfg}{s:Ts}{f:Sm}{m:List Sm}(h:s.Inv c)(e:s.segs=f::m):(s.blame f m).Inv c/\(s.blame f m).mu<s.mu:=by
  have hf:=h.sm f (by rw[e];simp)
  have hpos:0<f.l.length:=List.length_pos_iff.2 hf.ne
  have hr:∀x∈m.map Sm.renew,SmOk c s.begun s.now x:=λx hx=>by
    obtain⟨y,hy,rfl⟩:=List.mem_map.1 hx
    exact(h.sm y (by rw[e];simp[hy])).renew
  unfold Ts.blame
  split
  · rename_i h1
    exact h.split e (by omega) (by omega) (trainLen_renew m) (muS_renew m) (renew_jobs m) hr
  · rename_i h1
    have h1':f.l.length=1:=by omega
    have hcnt:=h.cnt
    have htr:=h.tr
    rw[e,trainLen_cons,h1'] at hcnt htr
    have hlen:(s.outs++(f.l.take 1).map λx:Cg=>(x.1,2)).length=s.outs.length+1:=by simp[h1']
    refine⟨⟨h.len,h.ord,h.top,h.nd,h.inn,?_,?_,?_,?_,hr,renew_jobs m⟩,?_⟩
    · show _<=(s.outs++_).length
      rw[hlen];exact Nat.le_trans h.ack (Nat.le_add_right _ _)
    · show (s.outs++_).length+s.queue.length+trainLen (m.map Sm.renew)=s.ids.length
      rw[hlen,trainLen_renew];omega
    · show _<=(s.outs++_).length
      rw[hlen];exact Nat.le_trans h.main (Nat.le_add_right _ _)
    · show trainLen (m.map Sm.renew)<=8
      rw[trainLen_renew];omega
    · rw[Ts.mu_eq,Ts.mu_eq,e,muS_cons]
      show 3*s.queue.length+muS (m.map Sm.renew)<_
      rw[muS_renew];omega
theorem Ts.Inv.goes {c:Cfg}{s s':Ts}(h:s.Inv c)(hc:c.Ok)(hs:s.step c=some s'):s'.Inv c/\s'.mu<s.mu:=by
  unfold Ts.step at hs
  split at hs
  · rename_i e
    split at hs
    · cases hs
    · rename_i hq
      cases hs
      exact h.pick hc e (λe2=>hq (by simp[e2]))
  · rename_i f m e
    split at hs
    · cases hs;exact h.conflict e
    split at hs
    · rename_i h0 h1
      cases hs
      refine h.split e (Nat.pos_of_ne_zero h0) h1 rfl rfl ?_ λx hx=>h.sm x (by rw[e];simp[hx])
      have:=h.jobs
      rw[e,List.pairwise_cons] at this
      exact this.2
    split at hs
    · cases hs;exact h.land e
    split at hs
    · cases hs;exact h.blame e
    · cases hs
theorem Ts.run_more {c:Cfg}(hc:c.Ok):∀(n:Nat) (s:Ts),s.Inv c->s.mu<=n->s.run c n=s.run c s.mu
  |0,s,_,hn=>by rw[show s.mu=0 by omega]
  |n+1,s,h,hn=>by
    cases hs:s.step c with
    |none=>
      have e1:s.run c (n+1)=s:=by unfold Ts.run;rw[hs]
      rw[e1]
      cases hm:s.mu with
      |zero=>rfl
      |succ k=>unfold Ts.run;rw[hs]
    |some s'=>
      obtain⟨h',hlt⟩:=h.goes hc hs
      have e1:s.run c (n+1)=s'.run c n:=by rw[Ts.run,hs]
      rw[e1,Ts.run_more hc n s' h' (by omega)]
      cases hm:s.mu with
      |zero=>omega
      |succ k=>
        have e2:s.run c (k+1)=s'.run c k:=by rw[Ts.run,hs]
        rw[e2,Ts.run_more hc k s' h' (by omega)]
theorem Ts.Inv.run_step {c:Cfg}{s s':Ts}(h:s.Inv c)(hc:c.Ok)(hs:s.step c=some s'):s.run c s.mu=s'.run c s'.mu:=by
  obtain⟨h',hlt⟩:=h.goes hc hs
  cases hm:s.mu with
  |zero=>omega
  |succ k=>
    have e2:s.run c (k+1)=s'.run c k:=by rw[Ts.run,hs]
    rw[e2,Ts.run_more hc k s' h' (by omega)]
theorem Ts.run_none {c:Cfg}{s:Ts}(hs:s.step c=none)(n:Nat):s.run c n=s:=by
  cases n with
  |zero=>rfl
  |succ k=>rw[Ts.run,hs]
theorem Ts.Inv.run {c:Cfg}(hc:c.Ok):∀(n:Nat) {s:Ts},s.Inv c->(s.run c n).Inv c
  |0,s,h=>h
  |n+1,s,h=>by
    cases hs:s.step c with
    |none=>rw[Ts.run_none hs];exact h
    |some s'=>
      have e2:s.run c (n+1)=s'.run c n:=by rw[Ts.run,hs]
      rw[e2]
      exact Ts.Inv.run hc n (h.goes hc hs).1
end Go.Proofs.YtgamgomepdfgdaaGreat
