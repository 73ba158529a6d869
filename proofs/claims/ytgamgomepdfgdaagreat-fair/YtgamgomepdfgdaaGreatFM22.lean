import Derived.Test.YtgamgomepdfgdaaGreatFM20
set_option maxRecDepth 100000
set_option maxHeartbeats 8000000
namespace Go.Proofs.YtgamgomepdfgdaaGreat
open Go.RowKit Go.Proofs.Tryz
structure Bs where
  sg:Nat->Sm
  g:ByteArray->ByteArray
  b:Nat
  r:Nat
def Bs.put (t:Bs)(c:Cfg)(now p:Nat):Sm:=
  if (t.sg p).by_=0/\(t.sg p).job.isNone=true then {t.sg p with job:=some ⟨t.b+1,now+c.deadline,(makes t.g (t.sg p).l).1⟩} else t.sg p
def Bs.step (c:Cfg)(now:Nat)(t:Bs)(p:Nat):Bs:=
  ⟨λk=>if k=p then t.put c now p else t.sg k,(makes t.g (t.sg p).l).1,if (t.sg p).by_=0/\(t.sg p).job.isNone=true then t.b+1 else t.b,t.r-1⟩
def Bs.go (c:Cfg)(t:Bs)(p:Nat):Prop:=t.r≠0/\¬(makes t.g (t.sg p).l).2<(t.sg p).l.length/\¬c.retries<(t.sg p).fails
def Bs.all (c:Cfg)(now:Nat)(t:Bs)(l:List Nat):Bs:=l.foldl (Bs.step c now) t
def Bs.goes (c:Cfg)(now:Nat):Bs->List Nat->Prop
  |_,[]=>True
  |t,p::l=>t.go c p/\Bs.goes c now (t.step c now p) l
theorem Bs.all_snoc (c:Cfg)(now:Nat)(t:Bs)(l:List Nat)(p:Nat):t.all c now (l++[p])=(t.all c now l).step c now p:=by simp[Bs.all]
theorem Bs.goes_snoc {c:Cfg}{now:Nat}:∀{t:Bs} {l:List Nat} {p:Nat},t.goes c now l->(t.all c now l).go c p->t.goes c now (l++[p])
  |_,[],_,_,h=>⟨h,trivial⟩
  |_,_::_,_,h,h'=>⟨h.1,Bs.goes_snoc h.2 h'⟩
theorem Bs.all_other {c:Cfg}{now:Nat}:∀{l:List Nat} {t:Bs} {p:Nat},p∉l->(t.all c now l).sg p=t.sg p
  |[],_,_,_=>rfl
  |q::l,t,p,h=>by
    rw[List.mem_cons,not_or] at h
    have:=Bs.all_other (c:=c) (now:=now) (t:=t.step c now q) h.2
    show ((t.step c now q).all c now l).sg p=_
    rw[this]
    simp[Bs.step,h.1]
theorem begins_seq {c:Cfg}{now:Nat}:∀(m rest:List Nat) (t:Bs),(m++rest).Nodup->t.goes c now m->(rest=[]\/∃p l,rest=p::l/\¬(t.all c now m).go c p)->
    begins c now t.r ((m++rest).map t.sg) t.g t.b=((m++rest).map (t.all c now m).sg,(t.all c now m).b)
  |[],rest,t,_,_,hr=>by
    rcases hr with rfl|⟨p,l,rfl,h⟩
    · show begins c now t.r [] t.g t.b=([],t.b)
      cases t.r with
      |zero=>rw[begins]
      |succ r=>rw[begins]
    · show begins c now t.r (t.sg p::l.map t.sg) t.g t.b=(t.sg p::l.map t.sg,t.b)
      have h':¬t.go c p:=h
      cases hr:t.r with
      |zero=>rw[begins]
      |succ r=>
        rw[begins,if_pos]
        by_cases h1:(makes t.g (t.sg p).l).2<(t.sg p).l.length
        · exact .inl h1
        · by_cases h2:c.retries<(t.sg p).fails
          · exact .inr h2
          · exact absurd ⟨by omega,h1,h2⟩ h'
  |p::m,rest,t,hn,hg,hr=>by
    rw[List.cons_append,List.nodup_cons] at hn
    obtain⟨⟨g1,g2,g3⟩,hg'⟩:=hg
    have ih:=begins_seq m rest (t.step c now p) hn.2 hg' hr
    obtain⟨r,hr1⟩:∃r,t.r=r+1:=⟨t.r-1,by omega⟩
    have e1:(m++rest).map (t.step c now p).sg=(m++rest).map t.sg:=List.map_congr_left λk hk=>by
      have:k≠p:=λe=>hn.1 (e▸hk)
      simp[Bs.step,this]
    have e2:(t.step c now p).r=r:=by simp[Bs.step,hr1]
    have e3:((t.step c now p).all c now m).sg p=t.put c now p:=by
      rw[Bs.all_other λe=>hn.1 (List.mem_append_left _ e)]
      simp[Bs.step]
    rw[e1,e2] at ih
    show begins c now t.r (t.sg p::(m++rest).map t.sg) t.g t.b=(((t.step c now p).all c now m).sg p::(m++rest).map ((t.step c now p).all c now m).sg,((t.step c now p).all c now m).b)
    rw[e3,hr1,begins,if_neg (by omega)]
    unfold Bs.put
    by_cases hb:(t.sg p).by_=0/\(t.sg p).job.isNone=true
    · have e4:(t.step c now p).b=t.b+1:=if_pos hb
      have e5:(t.step c now p).g=(makes t.g (t.sg p).l).1:=rfl
      rw[e4,e5] at ih
      rw[if_pos hb,if_pos hb,ih]
    · have e4:(t.step c now p).b=t.b:=if_neg hb
      have e5:(t.step c now p).g=(makes t.g (t.sg p).l).1:=rfl
      rw[e4,e5] at ih
      rw[if_neg hb,if_neg hb,ih]
def pe (q:ByteArray):List Ed:=[(q,⟨#[]⟩,⟨#[120]⟩)]
theorem upd_ne {g:ByteArray->ByteArray}{q v r:ByteArray}(h:r≠q):upd g q v r=g r:=upd_other g v (Ne.symm h)
theorem pe_on {g:ByteArray->ByteArray}{q:ByteArray}(h:g q=⟨#[]⟩):appOn g (pe q)=true:=by
  rw[appOn_iff]
  intro e he
  rw[List.mem_singleton.1 he];exact h
theorem pe_edited (g:ByteArray->ByteArray)(q:ByteArray):edited g (pe q)=upd g q ⟨#[120]⟩:=rfl
def Frees (P:Nat->ByteArray)(g:ByteArray->ByteArray)(l:List Cg):Prop:=(∀y∈l,y.2=pe (P y.1)/\g (P y.1)=⟨#[]⟩)/\(l.map Prod.fst).Pairwise λi j=>P i≠P j
theorem Frees.tail {P:Nat->ByteArray}{g:ByteArray->ByteArray}{y:Cg}{l:List Cg}(h:Frees P g (y::l)):Frees P (edited g y.2) l:=by
  have hy:=h.1 y List.mem_cons_self
  have hp:=h.2
  rw[List.map_cons,List.pairwise_cons] at hp
  refine⟨λz hz=>⟨(h.1 z (List.mem_cons_of_mem _ hz)).1,?_⟩,hp.2⟩
  rw[hy.1,pe_edited,upd_ne λe=>hp.1 z.1 (List.mem_map_of_mem hz) e.symm]
  exact(h.1 z (List.mem_cons_of_mem _ hz)).2
theorem Frees.makes_ {P:Nat->ByteArray}:∀{l:List Cg} {g:ByteArray->ByteArray},Frees P g l->makes g l=(after g l,l.length)
  |[],g,_=>rfl
  |y::l,g,h=>by
    have hy:=h.1 y List.mem_cons_self
    have ih:=h.tail.makes_
    have ha:appOn g y.2=true:=by rw[hy.1];exact pe_on hy.2
    have e1:makes g (y::l)=((makes (edited g y.2) l).1,(makes (edited g y.2) l).2+1):=by
      rw[makes,if_pos ha]
    rw[e1,ih]
    rfl
theorem Frees.after_ {P:Nat->ByteArray}:∀{l:List Cg} {g:ByteArray->ByteArray},Frees P g l->∀q,(∀y∈l,P y.1≠q)->after g l q=g q
  |[],g,_,q,_=>rfl
  |y::l,g,h,q,hq=>by
    have hy:=h.1 y List.mem_cons_self
    have ih:=h.tail.after_ q λz hz=>hq z (List.mem_cons_of_mem _ hz)
    show after (edited g y.2) l q=_
    rw[ih,hy.1,pe_edited,upd_ne λe=>hq y List.mem_cons_self e.symm]
def Sm.bones (x:Sm):List Cg×Nat×Nat:=(x.l,x.fails,x.by_)
theorem begins_bones {c:Cfg}{now:Nat}:∀(r:Nat) (l:List Sm) (g:ByteArray->ByteArray) (b:Nat),(begins c now r l g b).1.map Sm.bones=l.map Sm.bones
  |0,l,g,b=>by rw[begins]
  |r+1,[],g,b=>by rw[begins]
  |r+1,x::l,g,b=>by
    rw[begins]
    split
    · rfl
    · split
      · rw[List.map_cons,List.map_cons,begins_bones r l];rfl
      · rw[List.map_cons,List.map_cons,begins_bones r l]
theorem begins_first {c:Cfg}{now r:Nat}{x:Sm}{l:List Sm}{g:ByteArray->ByteArray}{b:Nat}(h1:¬(makes g x.l).2<x.l.length)(h2:¬c.retries<x.fails)(h3:x.by_=0):∃x' l',(begins c now (r+1) (x::l) g b).1=x'::l'/\x'.bones=x.bones/\(∃j,x'.job=some j)/\l'.map Sm.bones=l.map Sm.bones:=by
  rw[begins,if_neg (λh=>h.elim h1 h2)]
  split
  · exact⟨_,_,rfl,rfl,⟨_,rfl⟩,begins_bones r l _ _⟩
  · rename_i h
    refine⟨_,_,rfl,rfl,?_,begins_bones r l _ _⟩
    cases hj:x.job with
    |none=>exact absurd ⟨h3,by rw[hj];rfl⟩ h
    |some j=>exact⟨j,rfl⟩
theorem rank_zero {c:Cfg}{s:Ts}(h:∀x∈s.queue,laneC c.age x=0):s.ranked c=s.queue:=by
  unfold Ts.ranked rkG
  have h0:(s.queue.filter λx=>laneC c.age x==0)=s.queue:=List.filter_eq_self.2 λx hx=>by rw[h x hx];rfl
  have h1:∀l,l≠0->(s.queue.filter λx=>laneC c.age x==l)=[]:=λl hl=>by
    rw[List.filter_eq_nil_iff]
    intro x hx
    rw[h x hx]
    simp only[beq_iff_eq]
    omega
  rw[show List.range 4=[0,1,2,3] from rfl]
  simp only[List.flatMap_cons,List.flatMap_nil,List.append_nil]
  rw[h0,h1 1 (by decide),h1 2 (by decide),h1 3 (by decide)]
  simp
def Ts.rest (s:Ts):List Nat:=(s.segs.flatMap Sm.l).map Prod.fst++s.queue.map Ch.id
def needs (R:Nat)(x:Sm):Nat:=if x.by_=0 then (R+1)*(2*x.l.length-1)-x.fails else 0
theorem bones_l {a b:List Sm}(h:a.map Sm.bones=b.map Sm.bones):a.flatMap Sm.l=b.flatMap Sm.l:=by
  have e:∀l:List Sm,l.flatMap Sm.l=(l.map Sm.bones).flatMap Prod.fst:=λl=>by rw[List.flatMap_map];rfl
  rw[e,e,h]
def clean (bad:Nat->Bool)(x:Sm):Bool:= !x.l.any λy=>bad y.1
theorem answer_first {c:Cfg}{s:Ts}{f:Sm}{m:List Sm}{j:Jb}(hI:s.Inv c)(e:s.segs=f::m)(hj:f.job=some j)(pass:Bool):s.answer j.num pass={s with segs:=f.ends pass j.num::m}:=by
  have hp:=hI.jobs
  rw[e,List.pairwise_cons] at hp
  have h1:f.runs j.num=true:=by rw[Sm.runs_iff];exact⟨j,hj,rfl⟩
  have h2:∀z∈m,z.runs j.num=false:=λz hz=>by
    cases hr:z.runs j.num
    · rfl
    · obtain⟨k,hk,ek⟩:=(Sm.runs_iff z j.num).1 hr
      exact absurd ek.symm (hp.1 z hz j k hj hk)
  unfold Ts.answer
  rw[e,List.map_cons,h1]
  have h3:m.map (λx=>if x.runs j.num then x.ends pass j.num else x)=m:=by
    rw[List.map_congr_left (g:=λx=>x) λz hz=>by rw[h2 z hz];rfl]
    exact List.map_id' m
  rw[h3];rfl
theorem ch_inj:∀{l:List Ch},(l.map Ch.id).Nodup->∀{a b:Ch},a∈l->b∈l->a.id=b.id->a=b
  |[],_,_,_,h,_,_=>by cases h
  |x::l,hn,a,b,ha,hb,e=>by
    rw[List.map_cons,List.nodup_cons] at hn
    rcases List.mem_cons.1 ha with h1|h1
    · rcases List.mem_cons.1 hb with h2|h2
      · rw[h1,h2]
      · have h3:b.id∈l.map Ch.id:=List.mem_map_of_mem h2
        rw[<-e,h1] at h3
        exact absurd h3 hn.1
    · rcases List.mem_cons.1 hb with h2|h2
      · have h3:a.id∈l.map Ch.id:=List.mem_map_of_mem h1
        rw[e,h2] at h3
        exact absurd h3 hn.1
      · exact ch_inj hn.2 h1 h2 e
structure Fr (P:Nat->ByteArray)(X top:Nat)(s:Ts):Prop where
  eds:∀y∈s.segs.flatMap Sm.l,y.2=pe (P y.1)
  que:∀x∈s.queue,x.edits=pe (P x.id)/\(x.id≠X->x.lane=0)
  tip:∀i∈s.rest,s.tip (P i)=⟨#[]⟩
  apart:s.rest.Pairwise λi j=>P i≠P j
  tops:∀i∈s.rest,i<=top\/i=X
  fresh:∀i,top<i->i<17576->s.tip (P i)=⟨#[]⟩
  out:∀o∈s.outs,o.2=1
def XAt (c:Cfg)(X m:Nat)(s:Ts):Prop:=
  (∃A x B,s.queue=A++x::B/\x.id=X/\x.lane<=c.lanes-1/\((c.lanes-1)*c.age-x.passed)+A.length+2<=m)\/(X∈(s.segs.flatMap Sm.l).map Prod.fst/\1<=m)\/(X,1)∈s.outs
theorem Fr.frees {P:Nat->ByteArray}{X top:Nat}{s:Ts}{f:Sm}{m:List Sm}(h:Fr P X top s)(e:s.segs=f::m):Frees P s.tip f.l:=by
  have hr:s.rest=f.l.map Prod.fst++((m.flatMap Sm.l).map Prod.fst++s.queue.map Ch.id):=by
    unfold Ts.rest
    rw[e,List.flatMap_cons,List.map_append,List.append_assoc]
  refine⟨λy hy=>⟨h.eds y (by rw[e,List.flatMap_cons];exact List.mem_append_left _ hy),h.tip y.1 (by rw[hr];exact List.mem_append_left _ (List.mem_map_of_mem hy))⟩,?_⟩
  have:=h.apart
  rw[hr] at this
  exact(List.pairwise_append.1 this).1
theorem Fr.land {P:Nat->ByteArray}{X top:Nat}{c:Cfg}{s:Ts}{f:Sm}(h:Fr P X top s)(e:s.segs=[f])(hp:∀i j,(i<=top\/i=X)->top<j->j<17576->P i≠P j){m:Nat}(hX:XAt c X (m+1) s):Fr P X top (s.land f [])/\(XAt c X (m+1) (s.land f [])/\(X∈f.l.map Prod.fst->(X,1)∈(s.land f []).outs)):=by
  have hF:=h.frees e
  have hr:s.rest=f.l.map Prod.fst++s.queue.map Ch.id:=by
    unfold Ts.rest
    rw[e,List.flatMap_cons,List.flatMap_nil,List.append_nil]
  have hr':(s.land f []).rest=s.queue.map Ch.id:=rfl
  have ht:(s.land f []).tip=after s.tip f.l:=by show (makes s.tip f.l).1=_;rw[hF.makes_]
  have hap:=h.apart
  rw[hr] at hap
  have hsub:∀i∈(s.land f []).rest,i∈s.rest:=λi hi=>by rw[hr];exact List.mem_append_right _ hi
  have hout:X∈f.l.map Prod.fst->(X,1)∈(s.land f []).outs:=λhm=>by
    obtain⟨y,hy,rfl⟩:=List.mem_map.1 hm
    exact List.mem_append_right _ (List.mem_map.2 ⟨y,hy,rfl⟩)
  refine⟨⟨λy hy=>(by cases hy),h.que,λi hi=>?_,by rw[hr'];exact(List.pairwise_append.1 hap).2.1,λi hi=>h.tops i (hsub i hi),λi h1 h2=>?_,λo ho=>?_⟩,?_,hout⟩
  · rw[ht,hF.after_ _ λy hy=>(List.pairwise_append.1 hap).2.2 y.1 (List.mem_map_of_mem hy) i hi]
    exact h.tip i (hsub i hi)
  · rw[ht,hF.after_ _ λy hy=>hp y.1 i (h.tops y.1 (by rw[hr];exact List.mem_append_left _ (List.mem_map_of_mem hy))) h1 h2]
    exact h.fresh i h1 h2
  · rcases List.mem_append.1 (show o∈s.outs++f.l.map λx:Cg=>(x.1,1) from ho) with ho|ho
    · exact h.out o ho
    · obtain⟨y,_,rfl⟩:=List.mem_map.1 ho
      rfl
  · rcases hX with hX|⟨hX,_⟩|hX
    · exact .inl hX
    · rw[e,List.flatMap_cons,List.flatMap_nil,List.append_nil] at hX
      exact .inr (.inr (hout hX))
    · exact .inr (.inr (List.mem_append_left _ hX))
theorem Fr.pick {P:Nat->ByteArray}{X top:Nat}{c:Cfg}{s:Ts}(h:Fr P X top s)(hI:s.Inv c)(hc:c.Ok)(e:s.segs=[]){m:Nat}(hX:XAt c X (m+1) s):Fr P X top (s.pick c)/\XAt c X (m+1) (s.pick c)/\((X,1)∉s.outs->XAt c X m (s.pick c)):=by
  have hp:=hI.ranked hc
  have hr:s.rest=s.queue.map Ch.id:=by unfold Ts.rest;rw[e];rfl
  have hsg:(s.pick c).segs.flatMap Sm.l=((s.ranked c).take c.batch).map Ch.cg:=by
    show [Sm.new (((s.ranked c).take c.batch).map Ch.cg)].flatMap Sm.l=_
    rw[List.flatMap_cons,List.flatMap_nil,List.append_nil];rfl
  have hleft:=hI.left hc c.batch
  have hperm:((s.pick c).rest).Perm s.rest:=by
    rw[hr]
    unfold Ts.rest
    rw[hsg]
    show ((((s.ranked c).take c.batch).map Ch.cg).map Prod.fst++((s.queue.filter _).map Ch.up).map Ch.id).Perm _
    rw[List.map_map,List.map_map]
    show (((s.ranked c).take c.batch).map Ch.id++(s.queue.filter _).map Ch.id).Perm _
    refine((List.Perm.refl _).append (hleft.map Ch.id)).trans ?_
    rw[<-List.map_append,List.take_append_drop]
    exact hp.map Ch.id
  have hFr:Fr P X top (s.pick c):=by
    refine⟨λy hy=>?_,λx hx=>?_,λi hi=>h.tip i (hperm.mem_iff.1 hi),?_,λi hi=>h.tops i (hperm.mem_iff.1 hi),h.fresh,h.out⟩
    · rw[hsg] at hy
      obtain⟨z,hz,rfl⟩:=List.mem_map.1 hy
      exact(h.que z (hp.mem_iff.1 (List.mem_of_mem_take hz))).1
    · obtain⟨z,hz,rfl⟩:=List.mem_map.1 (show x∈(s.queue.filter _).map Ch.up from hx)
      exact h.que z (List.mem_filter.1 hz).1
    · exact(hperm.symm.pairwise_iff fun {a b} hab=>Ne.symm hab).1 h.apart
  refine⟨hFr,?_⟩
  rcases hX with ⟨A,x,B,hq,hid,hl,hm⟩|⟨hX,_⟩|hX
  · have hkey:XAt c X m (s.pick c):=by
      by_cases hin:x∈(s.ranked c).take c.batch
      · refine .inr (.inl ⟨?_,by omega⟩)
        rw[hsg,List.map_map]
        exact List.mem_map.2 ⟨x,hin,hid⟩
      · have hnd:=hI.nd
        have hkeep:∀y∈s.queue,(!((s.ranked c).take c.batch).any λz=>z.id==y.id)=true↔y∉(s.ranked c).take c.batch:=λy hy=>by
          rw[Bool.not_eq_true',List.any_eq_false]
          constructor
          · intro h1 h2
            exact h1 y h2 (by simp)
          · intro h1 z hz e1
            have hz2:=hp.mem_iff.1 (List.mem_of_mem_take hz)
            have:z=y:=ch_inj hnd hz2 hy (by simpa using e1)
            exact h1 (this▸hz)
        have hxq:x∈s.queue:=by rw[hq];exact List.mem_append_right _ List.mem_cons_self
        have hqq:(s.pick c).queue=((A.filter λy=> !((s.ranked c).take c.batch).any λz=>z.id==y.id).map Ch.up)++x.up::((B.filter λy=> !((s.ranked c).take c.batch).any λz=>z.id==y.id).map Ch.up):=by
          show (s.queue.filter _).map Ch.up=_
          rw[hq,List.filter_append,List.filter_cons,if_pos ((hkeep x hxq).2 hin),List.map_append,List.map_cons]
        refine .inl ⟨_,_,_,hqq,hid,hl,?_⟩
        rw[List.length_map]
        show (c.lanes-1)*c.age-(x.passed+1)+_+2<=m
        have hfl:=List.length_filter_le (λy=> !((s.ranked c).take c.batch).any λz=>z.id==y.id) A
        by_cases hps:x.passed<(c.lanes-1)*c.age
        · omega
        · have hage:=hc.2.1.1
          have hz:∀y∈s.queue,laneC c.age y=0:=λy hy=>by
            unfold laneC
            by_cases hyX:y.id=X
            · have hyx:y=x:=ch_inj hnd hy hxq (by rw[hyX,hid])
              rw[hyx]
              have:c.lanes-1<=x.passed/c.age:=(Nat.le_div_iff_mul_le (by omega)).2 (by omega)
              omega
            · rw[(h.que y hy).2 hyX];exact Nat.zero_sub _
          have hrk:=rank_zero hz
          rw[hrk] at hin ⊢
          have hb:=hc.2.2.1.1
          have hAb:c.batch<=A.length:=by
            refine Nat.le_of_not_lt λhlt=>hin ?_
            rw[hq,List.take_append]
            exact List.mem_append_right _ (by
              obtain⟨t,ht⟩:∃t,c.batch-A.length=t+1:=⟨c.batch-A.length-1,by omega⟩
              rw[ht];exact List.mem_cons_self)
          have hAf:(A.filter λy=> !(s.queue.take c.batch).any λz=>z.id==y.id).length<=A.length-c.batch:=by
            have h1:((A.filter λy=> !(s.queue.take c.batch).any λz=>z.id==y.id)++((x::B).filter λy=> !(s.queue.take c.batch).any λz=>z.id==y.id))=s.queue.drop c.batch:=by
              rw[<-List.filter_append,<-hq]
              exact left_drop hnd c.batch
            have h2:=congrArg List.length h1
            rw[List.length_append,List.length_drop,hq,List.length_append] at h2
            have h3:((x::B).filter λy=> !((A++x::B).take c.batch).any λz=>z.id==y.id).length=(x::B).length:=by
              rw[List.filter_eq_self.2]
              intro y hy
              have hyq:y∈s.queue:=by rw[hq];exact List.mem_append_right _ hy
              have:=hkeep y hyq
              rw[hrk,hq] at this
              refine this.2 λhyt=>?_
              rw[List.take_append_of_le_length hAb] at hyt
              have hya:=List.mem_of_mem_take hyt
              have hnd2:=hnd
              rw[hq,List.map_append] at hnd2
              exact(List.nodup_append.1 hnd2).2.2 y.id (List.mem_map_of_mem hya) y.id (List.mem_map_of_mem hy) rfl
            rw[hq]
            omega
          omega
    refine⟨?_,λ_=>hkey⟩
    rcases hkey with ⟨A',x',B',q1,q2,q3,q4⟩|⟨q1,q2⟩|q1
    · exact .inl ⟨A',x',B',q1,q2,q3,by omega⟩
    · exact .inr (.inl ⟨q1,by omega⟩)
    · exact .inr (.inr q1)
  · rw[e] at hX;cases hX
  · exact⟨.inr (.inr hX),λhno=>absurd hX hno⟩
theorem Fr.bones {P:Nat->ByteArray}{X top:Nat}{s s':Ts}(h:Fr P X top s)(e1:s'.outs=s.outs)(e2:s'.queue=s.queue)(e3:s'.tip=s.tip)(hl:s'.segs.flatMap Sm.l=s.segs.flatMap Sm.l):Fr P X top s':=by
  have hr:s'.rest=s.rest:=by unfold Ts.rest;rw[hl,e2]
  exact⟨by rw[hl];exact h.eds,by rw[e2];exact h.que,by rw[hr,e3];exact h.tip,by rw[hr];exact h.apart,by rw[hr];exact h.tops,by rw[e3];exact h.fresh,by rw[e1];exact h.out⟩
theorem XAt.bones {c:Cfg}{X m:Nat}{s s':Ts}(h:XAt c X m s)(e1:s'.outs=s.outs)(e2:s'.queue=s.queue)(hl:s'.segs.flatMap Sm.l=s.segs.flatMap Sm.l):XAt c X m s':=by
  unfold XAt at h ⊢
  rw[e1,e2,hl];exact h
def Idle (s:Ts):Prop:=s.segs=[]\/∃f,s.segs=[f]/\f.by_≠0
theorem pick_end {P:Nat->ByteArray}{X top:Nat}{c:Cfg}{s:Ts}(h:Fr P X top (s.pick c))(hI:s.Inv c)(hc:c.Ok)(hs:s.segs=[])(hq:s.queue≠[]):s.run c s.mu=s.pick c/\∃f,(s.pick c).segs=[f]/\f.by_=0/\f.fails=0/\(makes (s.pick c).tip f.l).2=f.l.length:=by
  have e:(s.pick c).segs=[Sm.new (((s.ranked c).take c.batch).map Ch.cg)]:=rfl
  have hne:=(hI.pick hc hs hq).1.sm _ (by rw[e];exact List.mem_singleton.2 rfl)
  have hlen:0<(Sm.new (((s.ranked c).take c.batch).map Ch.cg)).l.length:=List.length_pos_iff.2 hne.ne
  have hm:=(h.frees e).makes_
  have hst:s.step c=some (s.pick c):=by
    unfold Ts.step
    rw[hs]
    show (if s.queue.isEmpty then none else some (s.pick c))=_
    rw[if_neg λe=>hq (List.isEmpty_iff.1 e)]
  have hend:(s.pick c).step c=none:=by
    unfold Ts.step
    rw[e]
    show (if (makes (s.pick c).tip _).2=0 then _ else _)=_
    rw[hm]
    rw[if_neg (show ¬(Sm.new (((s.ranked c).take c.batch).map Ch.cg)).l.length=0 by omega),if_neg (Nat.lt_irrefl _),if_neg (show ¬(Sm.new (((s.ranked c).take c.batch).map Ch.cg)).by_≠0 from λh=>h rfl),if_neg (show ¬c.retries<(Sm.new (((s.ranked c).take c.batch).map Ch.cg)).fails from Nat.not_lt_zero _)]
  refine⟨?_,_,e,rfl,rfl,by rw[hm]⟩
  rw[hI.run_step hc hst,Ts.run_none hend]
theorem Fr.pump {P:Nat->ByteArray}{X top:Nat}{c:Cfg}{s:Ts}(h:Fr P X top s)(hI:s.Inv c)(hc:c.Ok)(hs:Idle s)(hq:s.queue≠[])(hp:∀i j,(i<=top\/i=X)->top<j->j<17576->P i≠P j){m:Nat}(hX:XAt c X (m+1) s):Fr P X top (s.pump c)/\((X,1)∈(s.pump c).outs\/XAt c X m (s.pump c))/\(∃f j,(s.pump c).segs=[f]/\f.by_=0/\f.job=some j)/\(s.pump c).queue.length<s.queue.length/\(s.pump c).ids=s.ids:=by
  obtain⟨t,ht,hFt,hIt,hXt,hst,hqt,hid⟩:∃t:Ts,s.run c s.mu=t.run c t.mu/\Fr P X top t/\t.Inv c/\XAt c X (m+1) t/\t.segs=[]/\t.queue=s.queue/\t.ids=s.ids:=by
    rcases hs with hs|⟨f,hf,hb⟩
    · exact⟨s,rfl,h,hI,hX,hs,rfl,rfl⟩
    · have hm:=(h.frees hf).makes_
      have hlen:0<f.l.length:=List.length_pos_iff.2 (hI.sm f (by rw[hf];exact List.mem_singleton.2 rfl)).ne
      have hstep:s.step c=some (s.land f []):=by
        unfold Ts.step
        rw[hf]
        show (if (makes s.tip f.l).2=0 then _ else _)=_
        rw[hm]
        rw[if_neg (show ¬f.l.length=0 by omega),if_neg (Nat.lt_irrefl _),if_pos hb]
      obtain⟨h1,h2,_⟩:=h.land (c:=c) hf hp hX
      exact⟨_,hI.run_step hc hstep,h1,(hI.goes hc hstep).1,h2,rfl,rfl,rfl⟩
  obtain⟨hF2,hX2,hX3⟩:=hFt.pick hIt hc hst hXt
  have hqt2:t.queue≠[]:=by rw[hqt];exact hq
  obtain⟨hrun,f,hf,hb,hfa,hmk⟩:=pick_end hF2 hIt hc hst hqt2
  have hpu:s.pump c=(t.pick c).begin c:=by
    show (s.run c s.mu).begin c=_
    rw[ht,hrun]
  have hbl:((t.pick c).begin c).segs.flatMap Sm.l=(t.pick c).segs.flatMap Sm.l:=bones_l (begins_bones _ _ _ _)
  rw[hpu]
  refine⟨hF2.bones rfl rfl rfl hbl,?_,?_,?_,?_⟩
  · by_cases ho:(X,1)∈t.outs
    · exact .inl ho
    · exact .inr ((hX3 ho).bones rfl rfl hbl)
  · obtain⟨r,hr⟩:∃r,c.window=r+1:=⟨c.window-1,by have:=hc.2.2.2.1.1;omega⟩
    obtain⟨x',l',a1,a2,⟨j,a3⟩,a4⟩:=begins_first (c:=c) (now:=(t.pick c).now) (r:=r) (x:=f) (l:=[]) (g:=(t.pick c).tip) (b:=(t.pick c).begun) (by rw[hmk];exact Nat.lt_irrefl _) (by rw[hfa];exact Nat.not_lt_zero _) hb
    have hl':l'=[]:=List.map_eq_nil_iff.1 a4
    refine⟨x',j,?_,?_,a3⟩
    · show (begins c (t.pick c).now c.window (t.pick c).segs (t.pick c).tip (t.pick c).begun).1=_
      rw[hf,hr,a1,hl']
    · rw[show x'.by_=f.by_ from congrArg (λz=>z.2.2) a2];exact hb
  · have h1:=(hIt.left hc c.batch).length_eq
    rw[List.length_drop,(hIt.ranked hc).length_eq] at h1
    show ((t.queue.filter _).map Ch.up).length<_
    rw[List.length_map,h1,hqt]
    have:=hc.2.2.1.1
    have:=List.length_pos_iff.2 hq
    omega
  · show t.ids=s.ids
    exact hid
theorem Fr.answer {P:Nat->ByteArray}{X top:Nat}{c:Cfg}{s:Ts}{f:Sm}{j:Jb}(h:Fr P X top s)(hI:s.Inv c)(e:s.segs=[f])(hj:f.job=some j){m:Nat}(hX:XAt c X m s):Fr P X top (s.answer j.num true)/\XAt c X m (s.answer j.num true)/\Idle (s.answer j.num true):=by
  rw[answer_first hI e hj]
  have hl:(f.ends true j.num).l=f.l:=Sm.ends_l f true j.num
  have hflat:([f.ends true j.num]:List Sm).flatMap Sm.l=s.segs.flatMap Sm.l:=by rw[e,List.flatMap_cons,List.flatMap_cons,hl]
  have hjn:=((hI.sm f (by rw[e];exact List.mem_cons_self)).job j hj).2.2.1
  refine⟨h.bones rfl rfl rfl hflat,hX.bones rfl rfl hflat,.inr ⟨_,rfl,?_⟩⟩
  show j.num≠0
  omega
theorem Fr.sub {P:Nat->ByteArray}{X top:Nat}{s:Ts}(h:Fr P X top s)(ht:top+1<17576)(hp:∀i j,(i<=top\/i=X)->top<j->j<17576->P i≠P j):Fr P X (top+1) {s with ids:=s.ids++[top+1],queue:=s.queue++[⟨top+1,0,0,s.ids.length,pe (P (top+1))⟩]}:=by
  have hr:({s with ids:=s.ids++[top+1],queue:=s.queue++[⟨top+1,0,0,s.ids.length,pe (P (top+1))⟩]}:Ts).rest=s.rest++[top+1]:=by
    unfold Ts.rest
    show (s.segs.flatMap Sm.l).map Prod.fst++(s.queue++[_]).map Ch.id=_
    rw[List.map_append,<-List.append_assoc];rfl
  refine⟨h.eds,λx hx=>?_,λi hi=>?_,?_,λi hi=>?_,λi h1 h2=>h.fresh i (by omega) h2,h.out⟩
  · rcases List.mem_append.1 (show x∈s.queue++[_] from hx) with hx|hx
    · exact h.que x hx
    · rw[List.mem_singleton.1 hx];exact⟨rfl,λ_=>rfl⟩
  · rw[hr] at hi
    rcases List.mem_append.1 hi with hi|hi
    · exact h.tip i hi
    · rw[List.mem_singleton.1 hi];exact h.fresh _ (by omega) ht
  · rw[hr,List.pairwise_append]
    refine⟨h.apart,List.pairwise_singleton _ _,λi hi k hk=>?_⟩
    rw[List.mem_singleton.1 hk]
    exact hp i (top+1) (h.tops i hi) (by omega) ht
  · rw[hr] at hi
    rcases List.mem_append.1 hi with hi|hi
    · rcases h.tops i hi with h1|h1
      · exact .inl (by omega)
      · exact .inr h1
    · rw[List.mem_singleton.1 hi];exact .inl (Nat.le_refl _)
theorem XAt.sub {c:Cfg}{X m:Nat}{s:Ts}(hX:XAt c X m s)(x0:Ch)(l:List Nat):XAt c X m {s with ids:=l,queue:=s.queue++[x0]}:=by
  rcases hX with ⟨A,x,B,q1,q2,q3,q4⟩|hX|hX
  · exact .inl ⟨A,x,B++[x0],by show s.queue++[_]=_;rw[q1];simp,q2,q3,q4⟩
  · exact .inr (.inl hX)
  · exact .inr (.inr hX)
section
open Go.Shelf
attribute [local go_sem] Oper.semAt_some
def Ts.blame0 (s:Ts)(f:Sm)(m:List Sm):Ts:=if 1<f.l.length then s.split f ((f.l.length+1)/2) m else {s with outs:=s.outs++(f.l.take 1).map λx=>(x.1,2),segs:=m}
theorem Sm.renew_new (l:List Cg):(Sm.new l).renew=Sm.new l:=rfl
theorem Ts.blame_eq (s:Ts)(f:Sm)(m:List Sm):s.blame f m={s.blame0 f m with segs:=(s.blame0 f m).segs.map Sm.renew}:=by
  unfold Ts.blame Ts.blame0
  split<;>simp[Ts.split,Sm.renew_new]
theorem tBlame {S:Nat->Prop}{yb mb n0 p:Nat}{c:Cfg}{s:Ts}{f:Sm}{w:World}{q:List Pw}{sb:Nat}{qv ov:Value}{x:Xt}{tl:List Tp}{zs:List (Nat×Sm)}(h:YardZ w S yb mb n0 c s q sb qv ov x tl ((p,f)::zs))(hf:f.l≠[])(hl:zs.length+f.l.length<=8)(ho:s.outs.length<1048576000)(ha:s.acked<=s.outs.length):
    Calls prog 214 #[ptr yb,ptr p] w λe w'=>e=.returned (.tuple #[])/\(∃ov' tv' zs',YardZ w' (Plus S w) yb mb n0 c (s.blame f (zs.map Prod.snd)) q sb qv ov' {x with tv:=tv'} tl zs')/\OnlyT w w' S [201,99,210,240]:=by
  rw[Ts.blame_eq]
  obtain⟨y,l,hyl⟩:∃y l,f.l=y::l:=by
    cases hq:f.l with
    |nil=>exact absurd hq hf
    |cons y l=>exact⟨y,l,rfl⟩
  obtain⟨cv,jv,cl,hseg⟩:=h.rest.train.segs (p,f) (by simp)
  have hcl:cl.length=f.l.length:=by rw[<-hseg.chs.fst,List.length_map]
  have hpos:0<f.l.length:=by rw[hyl];simp
  obtain⟨g,off,cap,rfl,hnc,hcm⟩:=hseg.chs.row.addr (by omega)
  have c0:w.cell? ⟨p,0,none⟩=some (.slice (some ⟨g,off,none⟩) f.l.length cap):=by rw[<-hcl];exact hseg.box.cell (i:=0) rfl
  have d0:w.cell? ⟨g,off,none⟩=some (.int .i64 y.1):=by
    have hfst:=hseg.chs.fst
    cases cl with
    |nil=>simp at hcl;omega
    |cons a b=>
      have:a.1=y:=by
        rw[show (p,f).2.l=y::l from hyl,List.map_cons,List.cons.injEq] at hfst
        exact hfst.1
      rw[<-this]
      exact hseg.chs.row.cell (j:=0) rfl
  rw[hcl] at hnc
  have hE:=tEndZ y.1 2 h ho ha
  have hS:1<f.l.length->_:=λhh=>tSplit (k:=(f.l.length+1)/2) h (by omega) (by omega) (by omega) (by omega)
  have HB0:Hid (s.blame0 f (zs.map Prod.snd)=if 1<f.l.length then s.split f ((f.l.length+1)/2) (zs.map Prod.snd) else {s with outs:=s.outs++[(y.1,2)],segs:=zs.map Prod.snd}):=by
    show _=_
    unfold Ts.blame0
    rw[hyl];rfl
  unfold maxLen at hcm
  clear h hseg hf hyl hcl
  generalize y.1=id at *
  generalize f.l.length=fl at *
  unfold ptr
  refine(callsIn_wide (n:=3)).1 ?_
  refine callsIn_of_wp_marks func214 rfl trivial ?_ rfl
  simp only[ntmps214,List.size_toArray,List.length_cons,List.length_nil,Nat.reduceAdd,Nat.reduceSub,Array.replicate_succ,Array.replicate_zero,List.push_toArray,List.append_toArray,List.nil_append,List.cons_append]
  gi_upto_if 12 with fail
  gi_cut [] from 12 (λwz=>Hid (∃ov' tv' zs',YardZ wz (Plus S w) yb mb n0 c (s.blame0 f (zs.map Prod.snd)) q sb qv ov' {x with tv:=tv'} tl zs'/\zs'.length<=8/\OnlyT w wz S [201,99,210]))
  case first=>
    by_cases hh:1<fl
    · have hS':=hS hh
      have q1:(fl:Int)>1:=by omega
      have q2:((fl:Int)+1)/2=(((fl+1)/2:Nat):Int):=by omega
      rw[<-q2] at hS'
      clear hS hE q2
      gi_wp2_with fail
      generalize ((fl:Int)+1)/2=kk at *
      refine⟨trivial,?_⟩
      refine(callsIn_wide.2 hS').mono ?_
      rintro e w' ⟨rfl,⟨tv',zs',hY',hz'⟩,hO'⟩
      have HR:Hid (∃ov' tv' zs',YardZ w' (Plus S w) yb mb n0 c (s.blame0 f (zs.map Prod.snd)) q sb qv ov' {x with tv:=tv'} tl zs'/\zs'.length<=8/\OnlyT w w' S [201,99,210]):=by
        refine⟨ov,tv',zs',?_,by omega,OnlyT.mono hO' (λ_ h=>h) (by decide)⟩
        rw[HB0.out,if_pos hh]
        exact hY'
      clear hY' hO' hS'
      gi_wp2_with fail
      gi_meet
      case rel=>exact HR
    · have q1:¬(fl:Int)>1:=by omega
      clear hS
      gi_wp2_with (refine⟨trivial,?_⟩;gi_at_call 170;refine(callsIn_wide.2 hE).mono ?_;rintro e w1 ⟨rfl,⟨ov1,hY1⟩,hO1⟩)
      have hD:=tDropZ hY1
      have HO1:Hid (OnlyT w w1 S [201,99]):=hO1
      clear hE hY1 hO1 c0 d0
      gi_wp2_with (refine⟨trivial,?_⟩;gi_at_call 244;refine(callsIn_wide.2 hD).mono ?_;rintro e w2 ⟨rfl,⟨tv2,hY2⟩,hO2⟩)
      have HR:Hid (∃ov' tv' zs',YardZ w2 (Plus S w) yb mb n0 c (s.blame0 f (zs.map Prod.snd)) q sb qv ov' {x with tv:=tv'} tl zs'/\zs'.length<=8/\OnlyT w w2 S [201,99,210]):=by
        refine⟨ov1,tv2,zs,?_,by omega,OnlyT.mono (OnlyT.trans HO1.out hO2 λk hk=>hk) (λ_ h=>h) (by decide)⟩
        rw[HB0.out,if_neg hh]
        exact hY2
      clear hY2 hO2 hD
      gi_wp2_with fail
      gi_meet
      case rel=>exact HR
  case rest=>
    obtain⟨ov1,tv1,zs1,HY1',hl1,HO1'⟩:=hcut.out
    obtain⟨ta,tcap,htv⟩:=HY1'.rest.train.row.form
    generalize hs1:s.blame0 f (zs.map Prod.snd)=s1 at HY1'
    have Hs1:Hid (s.blame0 f (zs.map Prod.snd)=s1):=hs1
    clear hs1
    have c11:wc.cell? ⟨yb,11,none⟩=some (.slice ta zs1.length tcap):=by rw[<-htv];exact HY1'.is.box.cell (i:=11) rfl
    have hpl:(zs1.map Prod.fst).length=zs1.length:=List.length_map _
    have hrow:Sl wc 210 1 (.slice ta zs1.length tcap) zs1.length ((zs1.map Prod.fst).map ptr):=by
      have:=HY1'.rest.train.row
      rw[List.map_map,<-htv]
      exact this
    have HRow:Hid (Sl wc 210 1 (.slice ta zs1.length tcap) zs1.length ((zs1.map Prod.fst).map ptr)):=hrow
    have hB0:Hid (Below wc.heap.size wc (wc.alloc (.cells #[.slice ta zs1.length tcap] 195))):=below_new _ _
    have HY1:Hid (YardZ wc (Plus S w) yb mb n0 c s1 q sb qv ov1 {x with tv:=tv1} tl zs1):=HY1'
    have HO1:Hid (OnlyT w wc S [201,99,210]):=HO1'
    clear hrow HY1' HO1' htv hE hS HB0 hcut c0 d0
    gi_wp2_with (refine⟨trivial,?_⟩;gi_at_call 147;refine(callsIn_wide.2 (lineAll yb ta zs1.length tcap wc c11)).mono ?_;rintro e w' ⟨rfl,rfl⟩)
    refine wpIn_rangeFunc_ownG (α:=Pt (zs1.map Prod.fst)) (n:=3) (F:=Fence.wide) rfl (by decide) (gf:=223) (lb:=#[.pointer (some ⟨wc.heap.size,0,none⟩)]) rfl trivial (enters_of func223 (by kernel_rfl) rfl)
      (sv_stops Fence.wide 2 trivial rfl (by decide) wc.heap.size (.slice ta zs1.length tcap) (zs1.map Prod.fst) (by rw[hpl];omega) (wc.alloc (.cells #[.slice ta zs1.length tcap] 195)) (by simp) (by simp) (by rw[hpl];exact HRow.out.mk _)) kpOf_t (kpOf_b λg hg=>Nat.lt_of_lt_of_le (HRow.out.lt hg) hB0.out.size) (Below.refl _ _) (λ_=>rfl)
      (λpre W=>EachIs wc W (Plus S w) (s1.top n0) zs1 Sm.renew (pre.map Subtype.val)) (λ_ _ _=>False) (EachIs.own hB0.out.size) (λ_ _ _ _ _ hs _ _=>hs) (EachIs.start HY1.out.rest.train.segs hB0.out)
      (λy=>{tmps:=#[.pointer (some ⟨yb,0,none⟩),.pointer (some ⟨p,0,none⟩),undef,undef,.int .i64 fl,.pointer (some ⟨y.1,0,none⟩),.pointer (some ⟨p,0,none⟩),.pointer (some ⟨p,0,none⟩),.pointer (some ⟨p,0,none⟩),.slice (some ⟨g,off,none⟩) fl cap,.int .i64 fl,.int .i64 fl,u12,u13,u14,u15,u16,u17,u18,u19,u20,u21,u22,u23,u24,u25,u26,u27,u28,u29,u30,u31,.pointer (some ⟨yb,0,none⟩),.pointer (some ⟨yb,0,none⟩),.pointer (some ⟨yb,11,none⟩),.func (.func 223) #[] #[.pointer (some ⟨wc.heap.size,0,none⟩)],.pointer (some ⟨y.1,0,none⟩),u37,u38],defers:=[]}) ?assign ?body ?done ?stop
    case assign=>
      intro l y W K hK
      unfold ptr
      gi_wp2
      exact hK
    case body=>
      rintro l pre ⟨p,hp⟩ W hE _
      obtain⟨⟨p',y⟩,hz,rfl⟩:=List.mem_map.1 hp
      obtain⟨cv,jv,cl,hseg⟩:=hE.2 (p',y) hz
      have hff:(if p'∈pre.map Subtype.val then y.renew else y).renew=y.renew:=by split<;>rfl
      have HE:Hid (EachIs wc W (Plus S w) (s1.top n0) zs1 Sm.renew (pre.map Subtype.val)):=hE
      simp only at hseg
      generalize (if p'∈pre.map Subtype.val then y.renew else y)=y' at *
      have HS:Hid (SegIs W (Plus S w) (s1.top n0) p' y' cv jv cl):=hseg
      obtain⟨ca,cm,cc,rfl⟩:=chg_form hseg.chs.row
      clear hE hseg
      gi_wp2_with (refine⟨trivial,?_⟩;gi_at_call 246;refine(calls_round _ _ (segRenew p' y'.fails y'.by_ ca cm cc jv W HS.out.box)).mono ?_;rintro e w' ⟨rfl,HB',HO'⟩)
      have hT:=HS.out.box.ty
      refine⟨keeps_only HO' hT (by decide),kp_only HO' hT (HE.out.1.sl HRow.out (by decide)),?_⟩
      have O:OnlyT W w' (Plus S w) [240]:=OnlyT.mk HO' λk _ e=>by
        subst e
        exact⟨HS.out.own,240,by simp,hT⟩
      have:=HE.out.step HY1.out.rest.train.nd hz HO' (by
        rw[<-hff]
        exact⟨_,.pointer none,cl,HB',HS.out.chs.keptT O.k (λ_ h=>h) (by decide) (by decide),rfl,HS.out.own⟩)
      simpa using this
    case done=>
      rintro D ys W hD rfl hE hK
      gi_wp2
      refine⟨by simp,.inl ⟨_,_,rfl,run_takeDeferred hK,?_⟩⟩
      have hE2:=(EachIs.own (ps:=zs1.map Prod.fst) (S:=Plus S w) (N:=s1.top n0) (zs:=zs1) (f:=Sm.renew) (w:=wc) hB0.out.size).putObj (.deferred none) hE hD hK rfl
      rw[List.attach_map_subtype_val] at hE2
      obtain rfl:=Hs1.out
      exact⟨_,results_none rfl _ _ _,rfl,⟨_,_,_,hE2.done HY1.out⟩,OnlyT.mono (OnlyT.trans HO1.out hE2.1 λk hk=>hk) (λ_ h=>h) (by decide)⟩
    case stop=>
      rintro D c pre W _ _ h _
      exact h.elim
end
theorem sl_addr_at {w:World}{e:TypeId}{size n:Nat}{xs:List Value}{g off cap:Nat}(hS:Sl w e size (.slice (some ⟨g,off,none⟩) n cap) n xs)(o:Obj):∀j u,xs[j]? =some u->(w.alloc o).cell? ((⟨g,off,none⟩:Addr).add j)=some u:=λj u hu=>by
  have e:(⟨g,off,none⟩:Addr).add j=⟨g,off+j,none⟩:=by
    unfold Addr.add
    by_cases h:j=0
    · subst h;simp
    · simp[h]
  rw[e]
  exact(hS.mk o).cell hu
theorem row_empty (w:World)(e:TypeId)(size:Nat):(w.alloc (.cells #[] e)).ownsRow w.heap.size e size (.slice (some ⟨w.heap.size,0,none⟩) 0 0) 0 []:=
  ⟨by simp,.inr ⟨w.heap.size,0,#[],rfl,Nat.le_refl _,Bx.new w #[] e,Nat.le_refl _,Nat.zero_le _,by simp,by simp⟩⟩
theorem info_tips:(prog.info? 110).map (λi=>(i.zero,i.size,i.bytes))=some (some (.agg #[.int .i64 0,.slice none 0 0]),2,32):=by kernel_rfl
theorem info_file:(prog.info? 80).map (λi=>(i.zero,i.size,i.bytes))=some (some (.agg #[.string ⟨#[]⟩,.string ⟨#[]⟩]),2,32):=by kernel_rfl
theorem tipClone (xs:List Value)(v:Value)(n:Nat)(w:World)(hS:Sl w 110 2 v n xs)(h1:∀u∈xs,u.oneCell'=true)(hm:n<=maxLen)(hn:n*32<=140737488355328):
    Calls prog 145 #[v] w λe w'=>(∃v',e=.returned v'/\w'.ownsRow w.heap.size 110 2 v' n xs)/\Below w.heap.size w w':=by
  obtain⟨i0,hi,hz0,hz1,hz2⟩:=info_parts info_tips
  have hv:=hS.2
  rcases hv with ⟨rfl,rfl⟩|⟨g,off,cap,cur,rfl,_⟩
  · obtain rfl:xs=[]:=List.eq_nil_of_length_eq_zero (by simpa using hS.1)
    have hnil:∀W:World,(binOp .eql 106 (.slice none 0 0) (.slice none 0 0)).run prog W=.ok (.bool true) W:=λW=>Lib.run_eql_slice_nil W _ _ _ _ _ _ _ underlying106
    go_enter func145,ntmps145
    go_wp2_with fail
    go_ret
    exact⟨⟨_,rfl,World.ownsRow_nil _ _ _ _⟩,Below.refl _ _⟩
  · have HS:Hid (∀o,∀j u,xs[j]? =some u->(w.alloc o).cell? ((⟨g,off,none⟩:Addr).add j)=some u):=sl_addr_at hS
    have H1:Hid (∀u∈xs,u.oneCell'=true):=h1
    have hle:Hid (xs.length=n*2):=hS.1
    have q1:Hid (0+n<=maxLen):=by show _<=_;omega
    have q2:Hid ((0+n)*32<=140737488355328):=by show _<=_;omega
    have hnil:∀W:World,(binOp .eql 106 (.slice (some ⟨g,off,none⟩) n cap) (.slice none 0 0)).run prog W=.ok (.bool false) W:=λW=>Lib.run_eql_slice_nil W _ _ _ _ _ _ _ underlying106
    clear hS h1 hm hn
    go_enter func145,ntmps145
    go_wp2_with (at_builtin;refine wpList_append_own_at _ rfl _ _ 106 rfl w.heap.size _ i0 _ 2 32 underlying106 hi hz0 hz1 hz2 rfl (by decide) (.slice (some ⟨w.heap.size,0,none⟩) 0 0) 0 [] rfl (row_empty w _ _) ⟨g,off,none⟩ n cap xs rfl hle.out (HS.out _) H1.out q1.out q2.out (by simp) ?_;intro v3 w3 hown3 hg3 hnil3 hloc3)
    have hb3:Below w.heap.size w w3:=(below_new _ _).grown hg3 (by simp) (by intro j hj;cases hj;exact Nat.le_refl _)
    have hr3:w3.ownsRow w.heap.size 110 2 v3 n xs:=by simpa using hown3
    obtain⟨a3,c3,rfl⟩:=row_shape3 hr3
    go_wp2_with fail
    go_ret
    exact⟨⟨_,rfl,hr3⟩,hb3⟩
theorem intClone (xs:List Value)(v:Value)(n:Nat)(w:World)(hS:Sl w 3 1 v n xs)(h1:∀u∈xs,u.oneCell'=true)(hm:n<=maxLen)(hn:n*8<=140737488355328):
    Calls prog 146 #[v] w λe w'=>(∃v',e=.returned v'/\w'.ownsRow w.heap.size 3 1 v' n xs)/\Below w.heap.size w w':=by
  obtain⟨i0,hi,hz0,hz1,hz2⟩:=info_parts info_int
  have hv:=hS.2
  rcases hv with ⟨rfl,rfl⟩|⟨g,off,cap,cur,rfl,_⟩
  · obtain rfl:xs=[]:=List.eq_nil_of_length_eq_zero (by simpa using hS.1)
    have hnil:∀W:World,(binOp .eql 56 (.slice none 0 0) (.slice none 0 0)).run prog W=.ok (.bool true) W:=λW=>Lib.run_eql_slice_nil W _ _ _ _ _ _ _ underlying56
    go_enter func146,ntmps146
    go_wp2_with fail
    go_ret
    exact⟨⟨_,rfl,World.ownsRow_nil _ _ _ _⟩,Below.refl _ _⟩
  · have HS:Hid (∀o,∀j u,xs[j]? =some u->(w.alloc o).cell? ((⟨g,off,none⟩:Addr).add j)=some u):=sl_addr_at hS
    have H1:Hid (∀u∈xs,u.oneCell'=true):=h1
    have hle:Hid (xs.length=n*1):=hS.1
    have q1:Hid (0+n<=maxLen):=by show _<=_;omega
    have q2:Hid ((0+n)*8<=140737488355328):=by show _<=_;omega
    have hnil:∀W:World,(binOp .eql 56 (.slice (some ⟨g,off,none⟩) n cap) (.slice none 0 0)).run prog W=.ok (.bool false) W:=λW=>Lib.run_eql_slice_nil W _ _ _ _ _ _ _ underlying56
    clear hS h1 hm hn
    go_enter func146,ntmps146
    go_wp2_with (at_builtin;refine wpList_append_own_at _ rfl _ _ 56 rfl w.heap.size _ i0 _ 1 8 underlying56 hi hz0 hz1 hz2 rfl (by decide) (.slice (some ⟨w.heap.size,0,none⟩) 0 0) 0 [] rfl (row_empty w _ _) ⟨g,off,none⟩ n cap xs rfl hle.out (HS.out _) H1.out q1.out q2.out (by simp) ?_;intro v3 w3 hown3 hg3 hnil3 hloc3)
    have hb3:Below w.heap.size w w3:=(below_new _ _).grown hg3 (by simp) (by intro j hj;cases hj;exact Nat.le_refl _)
    have hr3:w3.ownsRow w.heap.size 3 1 v3 n xs:=by simpa using hown3
    obtain⟨a3,c3,rfl⟩:=row_shape3 hr3
    go_wp2_with fail
    go_ret
    exact⟨⟨_,rfl,hr3⟩,hb3⟩
theorem fileClone (xs:List Value)(v:Value)(n:Nat)(w:World)(hS:Sl w 80 2 v n xs)(h1:∀u∈xs,u.oneCell'=true)(hm:n<=maxLen)(hn:n*32<=140737488355328):
    Calls prog 150 #[v] w λe w'=>(∃v',e=.returned v'/\w'.ownsRow w.heap.size 80 2 v' n xs)/\Below w.heap.size w w':=by
  obtain⟨i0,hi,hz0,hz1,hz2⟩:=info_parts info_file
  have hv:=hS.2
  rcases hv with ⟨rfl,rfl⟩|⟨g,off,cap,cur,rfl,_⟩
  · obtain rfl:xs=[]:=List.eq_nil_of_length_eq_zero (by simpa using hS.1)
    have hnil:∀W:World,(binOp .eql 24 (.slice none 0 0) (.slice none 0 0)).run prog W=.ok (.bool true) W:=λW=>Lib.run_eql_slice_nil W _ _ _ _ _ _ _ underlying24
    go_enter func150,ntmps150
    go_wp2_with fail
    go_ret
    exact⟨⟨_,rfl,World.ownsRow_nil _ _ _ _⟩,Below.refl _ _⟩
  · have HS:Hid (∀o,∀j u,xs[j]? =some u->(w.alloc o).cell? ((⟨g,off,none⟩:Addr).add j)=some u):=sl_addr_at hS
    have H1:Hid (∀u∈xs,u.oneCell'=true):=h1
    have hle:Hid (xs.length=n*2):=hS.1
    have q1:Hid (0+n<=maxLen):=by show _<=_;omega
    have q2:Hid ((0+n)*32<=140737488355328):=by show _<=_;omega
    have hnil:∀W:World,(binOp .eql 24 (.slice (some ⟨g,off,none⟩) n cap) (.slice none 0 0)).run prog W=.ok (.bool false) W:=λW=>Lib.run_eql_slice_nil W _ _ _ _ _ _ _ underlying24
    clear hS h1 hm hn
    go_enter func150,ntmps150
    go_wp2_with (at_builtin;refine wpList_append_own_at _ rfl _ _ 24 rfl w.heap.size _ i0 _ 2 32 underlying24 hi hz0 hz1 hz2 rfl (by decide) (.slice (some ⟨w.heap.size,0,none⟩) 0 0) 0 [] rfl (row_empty w _ _) ⟨g,off,none⟩ n cap xs rfl hle.out (HS.out _) H1.out q1.out q2.out (by simp) ?_;intro v3 w3 hown3 hg3 hnil3 hloc3)
    have hb3:Below w.heap.size w w3:=(below_new _ _).grown hg3 (by simp) (by intro j hj;cases hj;exact Nat.le_refl _)
    have hr3:w3.ownsRow w.heap.size 80 2 v3 n xs:=by simpa using hown3
    obtain⟨a3,c3,rfl⟩:=row_shape3 hr3
    go_wp2_with fail
    go_ret
    exact⟨⟨_,rfl,hr3⟩,hb3⟩
section
open Go.Shelf
attribute [local go_sem] Oper.semAt_some
theorem jIns0 (f:Value)(w:World):
    Calls prog 224 #[.slice none 0 0,.int .i64 0,.int .i64 0,f] w λe w'=>e=.returned (.tuple #[])/\w'=w:=by
  go_enter func224,ntmps224
  go_wp2
  refine wp_loop_rounds 1 ?_
  rw[rounds_succ]
  go_wp2
  go_end0
  exact⟨rfl,rfl⟩
theorem jPdq0 (f:Value)(n:Int)(w:World):
    Calls prog 190 #[.slice none 0 0,.int .i64 0,.int .i64 0,.int .i64 n,f] w λe w'=>e=.returned (.tuple #[])/\w'=w:=by
  go_enter func190,ntmps190
  go_wp2
  refine wp_loop_rounds 1 ?_
  rw[rounds_succ]
  go_wp2_with fail
  go_fit (jIns0 f w)
  rintro e w1 ⟨rfl,rfl⟩
  go_wp2_with fail
  (try simp only[Exit.inBlock,Exit.then]);refine bodyPost_ret (results_none rfl _ _ _) rfl ?_
  exact⟨rfl,rfl⟩
theorem bitsLen0 (w:World):
    Calls prog 191 #[.int .u64 0] w λe w'=>(∃n,e=.returned (.int .i64 n))/\w'=w:=by
  go_enter func191,ntmps191
  go_wp2
  go_ret
  exact⟨⟨_,rfl⟩,rfl⟩
theorem jSort0 (f:Value)(w:World):
    Calls prog 151 #[.slice none 0 0,f] w λe w'=>e=.returned (.tuple #[])/\w'=w:=by
  go_enter func151,ntmps151
  go_wp2_with fail
  go_fit (bitsLen0 w)
  rintro e w1 ⟨⟨n,rfl⟩,rfl⟩
  go_wp2_with fail
  go_fit (jPdq0 f n w1)
  rintro e w2 ⟨rfl,rfl⟩
  go_wp2_with fail
  go_end0
  exact⟨rfl,rfl⟩
end
section
attribute [local go_sem] Oper.semAt_some
def tsGo:List TypeId:=[201,99,110,210,240]
def GoneTo (w w':World)(S:Nat->Prop)(yb mb n0:Nat)(c:Cfg)(s:Ts):Prop:=YardAt w' (Plus S w) yb mb n0 c s/\OnlyT w w' S tsGo
theorem GoneTo.of {w w2 w':World}{S T U:Nat->Prop}{yb mb n0:Nat}{c:Cfg}{s:Ts}{q:List Pw}{sb:Nat}{qv ov:Value}{x:Xt}{ts:List TypeId}(hb:Below w.heap.size w w2)(hY:YardIs w' T yb mb n0 c s q sb qv ov x)(hn:¬Plus S w mb)(hT:∀k,T k->Plus S w k)(hx:x.n<=n0+4*s.outs.length)(hO:OnlyT w2 w' U ts)(hU:∀k,U k->Plus S w k)(hts:∀t∈ts,t∈tsGo):GoneTo w w' S yb mb n0 c s:=
  ⟨⟨q,sb,qv,ov,x,hY.mono hT hn,hx⟩,OnlyT.mono (OnlyT.trans (ts:=[]) (OnlyT.below hb) hO hU) (λ_ h=>h) (by simpa using hts)⟩
theorem Plus.over {S:Nat->Prop}{w w1:World}(h:w.heap.size<=w1.heap.size):∀k,Plus S w1 k->Plus S w k:=λ_ hk=>hk.imp (λe=>e) (Nat.le_trans h)
theorem seg_count {c:Cfg}{b t:Nat}:∀{l:List Sm},(∀x∈l,SmOk c b t x)->l.length<=trainLen l
  |[],_=>Nat.zero_le _
  |x::l,h=>by
    have h1:=seg_count λy hy=>h y (List.mem_cons_of_mem _ hy)
    have h2:=List.length_pos_iff.2 (h x (List.mem_cons_self ..)).ne
    unfold trainLen at h1 ⊢
    rw[List.map_cons,List.sum_cons,List.length_cons]
    omega
theorem tGo_none {S:Nat->Prop}{yb mb n0:Nat}{c:Cfg}{s:Ts}{w:World}{q:List Pw}{sb:Nat}{qv ov:Value}{x:Xt}(h:YardIs w S yb mb n0 c s q sb qv ov x)(hx:x.n<=n0+4*s.outs.length)(hI:s.Inv c)(hc:c.Ok)(hi:s.ids.length<1048575000)(hs:s.segs=[]):
    Calls prog 171 #[ptr yb] w λe w'=>e=.returned (.bool (s.step c).isSome)/\GoneTo w w' S yb mb n0 c ((s.step c).getD s):=by
  obtain⟨tl,zs,hZ⟩:=h.z
  obtain rfl:zs=[]:=by
    have:=hZ.rest.train.snd
    rw[hs] at this
    simpa using this
  have hF:=segFirst_none yb 11 201 x.tv _ w h.box rfl hZ.rest.train.row
  have hnp:=h.np
  have hst:s.step c=if s.queue.isEmpty then none else some (s.pick c):=by
    unfold Ts.step
    rw[hs]
  have HY:Hid (YardIs w S yb mb n0 c s q sb qv ov x):=h
  by_cases hq:s.queue=[]
  · have hst2:s.step c=none:=by rw[hst,hq];rfl
    rw[hst2]
    have hq0:q=[]:=by
      have:=h.qs
      rw[hq] at this
      simpa using this.eq_nil
    subst hq0
    obtain⟨qa,qcap,hqv⟩:=h.que.row.form
    have HP:Hid (∀W,Below w.heap.size w W->Calls prog 207 #[.pointer (some ⟨yb,0,none⟩)] W λe w'=>e=.returned (.bool false)/\w'=W):=λW hW=>tPick_none yb _ qa qcap W (h.later hW).box (by rw[hqv];rfl)
    clear h hZ hst hst2
    unfold ptr
    go_enter func171,ntmps171
    go_wp2_with fail
    go_fit hF
    rintro e w1 ⟨rfl,hb1⟩
    have hP:=HP.out w1 hb1
    go_wp2_with fail
    go_fit hP
    rintro e w2 ⟨rfl,rfl⟩
    go_wp2_with fail
    go_ret
    exact⟨rfl,GoneTo.of (ts:=[]) hb1 (HY.out.later hb1) hnp (Plus.old w) hx (OnlyT.refl _ S _) (Plus.old w) (by simp)⟩
  · have hst2:s.step c=some (s.pick c):=by rw[hst,if_neg (by simpa using hq)]
    rw[hst2]
    have HP:Hid (∀W,Below w.heap.size w W->_):=λW hW=>tPick (h.later hW) hI hc (by omega) hs hq
    clear h hZ hst hst2
    unfold ptr
    go_enter func171,ntmps171
    go_wp2_with fail
    go_fit hF
    rintro e w1 ⟨rfl,hb1⟩
    have hP:=HP.out w1 hb1
    go_wp2_with fail
    go_fit hP
    rintro e w2 ⟨rfl,⟨q',qv',tv',hY'⟩,hO'⟩
    have HG:Hid (GoneTo w w2 S yb mb n0 c (s.pick c)):=GoneTo.of hb1 hY' hnp (Plus.over hb1.size) hx hO' (Plus.old w) (by decide)
    clear hY' hO' hP hF
    go_wp2_with fail
    go_ret
    exact⟨rfl,HG.out⟩
theorem below_drewN (w:World)(n:Nat):Below w.heap.size w (w.drewN n):=⟨rfl,rfl,rfl,Nat.le_refl _,λ_ _=>rfl⟩
theorem step_cons {c:Cfg}{s:Ts}{f:Sm}{m:List Sm}(hs:s.segs=f::m):s.step c=if (makes s.tip f.l).2=0 then some (s.conflict f m)
    else if (makes s.tip f.l).2<f.l.length then some (s.split f (makes s.tip f.l).2 m)
    else if f.by_≠0 then some (s.land f m)
    else if c.retries<f.fails then some (s.blame f m)
    else none:=by
  unfold Ts.step
  rw[hs]
theorem Ts.blame_outs (s:Ts)(f:Sm)(m:List Sm):s.outs.length<=(s.blame f m).outs.length:=by
  unfold Ts.blame Ts.split
  split<;>simp
theorem tGo_some {S:Nat->Prop}{yb mb n0:Nat}{c:Cfg}{s:Ts}{w:World}{q:List Pw}{sb:Nat}{qv ov:Value}{x:Xt}(h:YardIs w S yb mb n0 c s q sb qv ov x)(hx:x.n<=n0+4*s.outs.length)(hI:s.Inv c)(hi:s.ids.length<1048575000)(h0:n0<1048576000){f:Sm}{m:List Sm}(hs:s.segs=f::m):
    Calls prog 171 #[ptr yb] w λe w'=>e=.returned (.bool (s.step c).isSome)/\GoneTo w w' S yb mb n0 c ((s.step c).getD s):=by
  obtain⟨tl,zs0,hZ⟩:=h.z
  obtain⟨p,zs,rfl,rfl⟩:∃p zs,zs0=(p,f)::zs/\zs.map Prod.snd=m:=by
    have:=hZ.rest.train.snd
    rw[hs] at this
    cases zs0 with
    |nil=>simp at this
    |cons z zs=>
      rw[List.map_cons,List.cons.injEq] at this
      exact⟨z.1,zs,by rw[<-this.1],this.2⟩
  have hrow:=hZ.rest.train.row
  rw[List.length_cons,List.map_cons] at hrow
  have hF:=segFirst_some yb 11 zs.length 201 (ptr p) x.tv (some ⟨p,0,none⟩) rfl _ _ w h.box rfl hrow
  have hsm:SmOk c s.begun s.now f:=hI.sm f (by rw[hs];simp)
  have hpos:=List.length_pos_iff.2 hsm.ne
  have hlen:zs.length+f.l.length<=8:=by
    have h1:=hI.tr
    rw[hs] at h1
    have h2:=seg_count (l:=zs.map Prod.snd) λy hy=>hI.sm y (by rw[hs];exact List.mem_cons_of_mem _ hy)
    unfold trainLen at h1 h2
    rw[List.map_cons,List.sum_cons] at h1
    rw[List.length_map] at h2
    omega
  have hou:s.outs.length<=s.ids.length:=by have:=hI.cnt;omega
  have hma:=hI.main
  have hnp:=h.np
  have hst:=step_cons (c:=c) hs
  have HC:Hid (∀W,Below w.heap.size w W->Calls prog 208 #[.map (some x.tip)] W λe w'=>e=.returned (.map (some W.heap.size))/\FilesMap w' W.heap.size x.n s.tip/\Below W.heap.size W w'):=λW hW=>setClone x.tip x.n s.tip W (hZ.later hW).rest.map
  have HZ:Hid (YardZ w S yb mb n0 c s q sb qv ov x tl ((p,f)::zs)):=hZ
  have HSt:Hid (s.step c=if (makes s.tip f.l).2=0 then some (s.conflict f (zs.map Prod.snd)) else if (makes s.tip f.l).2<f.l.length then some (s.split f (makes s.tip f.l).2 (zs.map Prod.snd)) else if f.by_≠0 then some (s.land f (zs.map Prod.snd)) else if c.retries<f.fails then some (s.blame f (zs.map Prod.snd)) else none):=hst
  have HSm:Hid (SmOk c s.begun s.now f):=hsm
  have HI:Hid (s.Inv c):=hI
  have HX:Hid (x.n<=n0+4*s.outs.length):=hx
  clear h hZ hrow hst hsm hI hx hs
  unfold ptr at hF
  unfold ptr
  go_enter func171,ntmps171
  go_wp2_with fail
  go_fit hF
  rintro e w1 ⟨rfl,hb1⟩
  have hC:=HC.out w1 hb1
  have y7:w1.cell? ⟨yb,7,none⟩=some (.map (some x.tip)):=(HZ.out.later hb1).is.box.cell (i:=7) rfl
  clear hF
  go_wp2_with fail
  go_fit hC
  rintro e w2 ⟨rfl,hM2,hb2⟩
  have hb12:Below w.heap.size w w2:=hb1.trans (hb2.mono hb1.size)
  obtain⟨cv,jv,cl,hseg⟩:=(HZ.out.later hb12).rest.train.segs (p,f) (by simp)
  have hA:=segApply S (s.top n0) p w1.heap.size x.n f cv jv cl s.tip w2 hseg hM2 (λy hy=>(HSm.out.eds y hy).2) (by omega) (by have:=HX.out;omega)
  have hM2':=hM2
  clear hC y7 hseg hM2
  go_wp2_with fail
  go_fit hA
  rintro e w3 ⟨rfl,hM3,hg3⟩
  have hb3:Below w.heap.size w w3:=below_own hb12 (Nat.le_refl _) hg3 (B:=w.heap.size) (λr e=>by cases e;exact hb1.size) (Nat.le_refl _)
  have hZ3:=HZ.out.later hb3
  obtain⟨cv,jv,cl,hseg⟩:=hZ3.rest.train.segs (p,f) (by simp)
  have hcl:cl.length=f.l.length:=by rw[<-hseg.chs.fst,List.length_map]
  obtain⟨g,off,cap,rfl,hnc,hcm⟩:=hseg.chs.row.addr (by omega)
  have c0:w3.cell? ⟨p,0,none⟩=some (.slice (some ⟨g,off,none⟩) f.l.length cap):=by rw[<-hcl];exact hseg.box.cell (i:=0) rfl
  have hw13:w1.heap.size<w3.heap.size:=by
    have h1:=hg3.size
    have h2:=hM2'.lt
    omega
  have HB3:Hid (Below w.heap.size w w3):=hb3
  have HW1:Hid (w.heap.size<=w1.heap.size):=hb1.size
  have HZ3:Hid (YardZ w3 S yb mb n0 c s q sb qv ov x tl ((p,f)::zs)):=hZ3
  have HM3:Hid ((makes s.tip f.l).2=f.l.length->FilesMap w3 w1.heap.size (x.n+4*f.l.length) (makes s.tip f.l).1):=hM3
  have HSeg:Hid (SegIs w3 S (s.top n0) p f (.slice (some ⟨g,off,none⟩) cl.length cap) jv cl):=hseg
  have hpass:=segPassed p f.by_ _ w3 hseg.box rfl (decide (f.by_≠0)) rfl
  have hfail:=yFailed yb p f.fails c.retries _ _ w3 hZ3.is.box rfl hseg.box rfl (decide (c.retries<f.fails)) rfl
  have hal:(makes s.tip f.l).2<=f.l.length:=makes_le _ _
  clear hb1 hb2 hb12 hb3 hZ3 hM3 hseg hA hg3 hM2'
  generalize ha:(makes s.tip f.l).2=a at *
  have HA:Hid ((makes s.tip f.l).2=a):=ha
  clear ha
  unfold ptr at hpass hfail
  by_cases ha0:a=0
  · subst ha0
    have hR:=tConflict HZ3.out (List.length_pos_iff.1 hpos) (by omega) HI.out.ack (by omega)
    unfold ptr at hR
    clear hpass hfail
    go_wp2_with fail
    refine hR.mono ?_
    rintro e w4 ⟨rfl,⟨ov4,tv4,zs4,hY4⟩,hO4⟩
    have HG:Hid (GoneTo w w4 S yb mb n0 c (s.conflict f (zs.map Prod.snd))):=GoneTo.of HB3.out hY4.is hnp (Plus.over HB3.out.size) (by have:=HX.out;show x.n<=n0+4*(s.outs++_).length;rw[List.length_append];omega) hO4 (Plus.old w) (by decide)
    have Hst:Hid (s.step c=some (s.conflict f (zs.map Prod.snd))):=by
      show _=_
      rw[HSt.out];simp
    clear hY4 hO4 hR
    go_wp2_with fail
    go_ret
    rw[Hst.out]
    exact⟨rfl,HG.out⟩
  · have q1:((a:Int)==0)=false:=by simp;omega
    by_cases hal2:a<f.l.length
    · have hR:=tSplit (k:=a) HZ3.out (by omega) hal2 (by omega) (by omega)
      have Hst:Hid (s.step c=some (s.split f a (zs.map Prod.snd))):=by
        show _=_
        rw[HSt.out,if_neg ha0,if_pos hal2]
      have q2:decide ((a:Int)<(f.l.length:Int))=true:=by rw[decide_eq_true_iff];omega
      have q3:(a:Int)<(f.l.length:Int):=by omega
      unfold ptr at hR
      clear hpass hfail
      go_wp2_with fail
      refine hR.mono ?_
      rintro e w4 ⟨rfl,⟨tv4,zs4,hY4,hz4⟩,hO4⟩
      have HG:Hid (GoneTo w w4 S yb mb n0 c (s.split f a (zs.map Prod.snd))):=GoneTo.of HB3.out hY4.is hnp (Plus.over HB3.out.size) HX.out hO4 (Plus.old w) (by decide)
      clear hY4 hO4 hR
      go_wp2_with fail
      go_ret
      rw[Hst.out]
      exact⟨rfl,HG.out⟩
    · have hae:a=f.l.length:=by omega
      have q2:decide ((a:Int)<(f.l.length:Int))=false:=by rw[decide_eq_false_iff_not];omega
      have q3:¬(a:Int)<(f.l.length:Int):=by omega
      by_cases hby:f.by_=0
      · by_cases hfa:c.retries<f.fails
        · have Hst:Hid (s.step c=some (s.blame f (zs.map Prod.snd))):=by
            show _=_
            rw[HSt.out,if_neg ha0,if_neg hal2,if_neg (by simpa using hby),if_pos hfa]
          have HR:Hid (∀n,_):=λn=>tBlame (HZ3.out.later (below_drewN w3 n)) (List.length_pos_iff.1 hpos) (by omega) (by omega) HI.out.ack
          have hby':decide (f.by_≠0)=false:=by simpa using hby
          have hfa':decide (c.retries<f.fails)=true:=by simpa using hfa
          rw[hby'] at hpass
          rw[hfa'] at hfail
          clear hby' hfa'
          go_wp2_with (first|(go_at_call 189;refine hpass.mono ?_;rintro e w4 ⟨rfl,rfl⟩)|(go_at_call 213;refine hfail.mono ?_;rintro e w4 ⟨rfl,nq,rfl⟩))
          have hR:=HR.out nq
          unfold ptr at hR
          refine hR.mono ?_
          rintro e w5 ⟨rfl,⟨ov5,tv5,zs5,hY5⟩,hO5⟩
          have HG:Hid (GoneTo w w5 S yb mb n0 c (s.blame f (zs.map Prod.snd))):=GoneTo.of (HB3.out.trans ((below_drewN _ nq).mono HB3.out.size)) hY5.is hnp (Plus.over HB3.out.size) (by have:=HX.out;have:=Ts.blame_outs s f (zs.map Prod.snd);show x.n<=_;omega) hO5 (Plus.old w) (by decide)
          clear hY5 hO5 hR hpass hfail
          go_wp2_with fail
          go_ret
          rw[Hst.out]
          exact⟨rfl,HG.out⟩
        · have Hst:Hid (s.step c=none):=by
            show _=_
            rw[HSt.out,if_neg ha0,if_neg hal2,if_neg (by simpa using hby),if_neg hfa]
          have hby':decide (f.by_≠0)=false:=by simpa using hby
          have hfa':decide (c.retries<f.fails)=false:=by simpa using hfa
          rw[hby'] at hpass
          rw[hfa'] at hfail
          clear hby' hfa'
          go_wp2_with (first|(go_at_call 189;refine hpass.mono ?_;rintro e w4 ⟨rfl,rfl⟩)|(go_at_call 213;refine hfail.mono ?_;rintro e w4 ⟨rfl,nq,rfl⟩))
          go_ret
          rw[Hst.out]
          exact⟨rfl,GoneTo.of (ts:=[]) (HB3.out.trans ((below_drewN _ nq).mono HB3.out.size)) (HZ3.out.is.later (below_drewN _ nq)) hnp (Plus.old w) HX.out (OnlyT.refl _ S _) (Plus.old w) (by simp)⟩
      · have Hst:Hid (s.step c=some (s.land f (zs.map Prod.snd))):=by
          show _=_
          rw[HSt.out,if_neg ha0,if_neg hal2,if_pos hby]
        have hM:=HM3.out hae
        have hZp:=HZ3.out.mono (Plus.old w) hnp
        have hR:=tLand hZp hM (.inr HW1.out) (by have:=HZ.out.is.sub.lt;have:=HW1.out;omega) (by omega) (by omega) HI.out.ack (by omega)
        have hby':decide (f.by_≠0)=true:=by simpa using hby
        rw[hby'] at hpass
        unfold ptr at hR
        clear hfail hM hZp hby' hby
        go_wp2_with (go_at_call 189;refine hpass.mono ?_;rintro e w4 ⟨rfl,rfl⟩)
        refine hR.mono ?_
        rintro e w5 ⟨rfl,⟨ov5,mv5,tv5,tl5,hY5⟩,hO5⟩
        have HG:Hid (GoneTo w w5 S yb mb n0 c (s.land f (zs.map Prod.snd))):=GoneTo.of HB3.out hY5.is hnp (Plus.two HB3.out.size) (by have:=HX.out;show x.n+4*f.l.length<=n0+4*(s.outs++lnd f.l).length;unfold lnd;rw[List.length_append,List.length_map];omega) hO5 (λ_ h=>h) (by decide)
        clear hY5 hO5 hR hpass
        go_wp2_with fail
        go_ret
        rw[Hst.out]
        exact⟨rfl,HG.out⟩
theorem tGoOn {S:Nat->Prop}{yb mb n0:Nat}{c:Cfg}{s:Ts}{w:World}(h:YardAt w S yb mb n0 c s)(hI:s.Inv c)(hc:c.Ok)(hi:s.ids.length<1048575000)(h0:n0<1048576000):
    Calls prog 171 #[ptr yb] w λe w'=>e=.returned (.bool (s.step c).isSome)/\GoneTo w w' S yb mb n0 c ((s.step c).getD s):=by
  obtain⟨q,sb,qv,ov,x,h,hx⟩:=h
  cases hs:s.segs with
  |nil=>exact tGo_none h hx hI hc hi hs
  |cons f m=>exact tGo_some h hx hI hi h0 hs
end
structure TipsOut (base:Nat)(w:World)(v:Value)(tl:List Tp):Prop where
  row:w.ownsRow base 110 2 v tl.length (tl.flatMap cTp)
  ids:∀y∈tl,w.ownsRow base 3 1 y.2 y.1.2.length (y.1.2.map cI)
  ap:tl.Pairwise λa b=>∀g,a.2.ownBlock=some g->b.2.ownBlock≠some g
theorem ints_one (l:List Nat):∀u∈l.map cI,u.oneCell'=true:=λu hu=>by
  obtain⟨n,_,rfl⟩:=List.mem_map.1 hu
  rfl
theorem tips_one {tl:List Tp}(h:∀y∈tl,IsSl y.2):∀u∈tl.flatMap cTp,u.oneCell'=true:=λu hu=>by
  obtain⟨y,hy,hu⟩:=List.mem_flatMap.1 hu
  obtain⟨a,n,c,e⟩:=h y hy
  simp only[cTp,List.mem_cons,List.not_mem_nil,or_false] at hu
  rcases hu with rfl|rfl
  · rfl
  · rw[e];rfl
theorem flat_put (ts:List Tp)(y:Tp)(rest:List Tp)(v:Value):((ts++y::rest).flatMap cTp).set (ts.length*2+1) v=(ts++[(y.1,v)]++rest).flatMap cTp:=by
  rw[List.flatMap_append,List.set_append_right _ _ (by rw[flat_len cTp 2 (λ_=>rfl)];omega),flat_len cTp 2 (λ_=>rfl),List.append_assoc,List.flatMap_append]
  simp[cTp]
theorem yMain (yb:Nat)(cs:Array Value)(mv:Value)(tl:List Tp)(w:World)(hB:Bx w yb 201 cs)(h8:cs[8]? =some mv)(hS:Sl w 110 2 mv tl.length (tl.flatMap cTp))(hids:∀y∈tl,Sl w 3 1 y.2 y.1.2.length (y.1.2.map cI))(hn:tl.length<1048576000)(hl:∀y∈tl,y.1.2.length<=8):
    Calls prog 104 #[.pointer (some ⟨yb,0,none⟩)] w λe w'=>(∃v' tl',e=.returned v'/\tl'.map Prod.fst=tl.map Prod.fst/\TipsOut w.heap.size w' v' tl')/\Below w.heap.size w w':=by
  have hsl:∀y∈tl,IsSl y.2:=λy hy=>by
    obtain⟨a,c,e⟩:=(hids y hy).form
    exact⟨a,_,c,e⟩
  have hC:=tipClone _ mv tl.length w hS (tips_one hsl) (by unfold maxLen;omega) (Nat.le_trans (Nat.mul_le_mul_right 32 (show tl.length<=1048576000 by omega)) (by decide))
  have HI:Hid (∀W,Below w.heap.size w W->∀y∈tl,Calls prog 146 #[y.2] W λe w'=>(∃v',e=.returned v'/\w'.ownsRow W.heap.size 3 1 v' y.1.2.length (y.1.2.map cI))/\Below W.heap.size W w'):=λW hW y hy=>intClone _ y.2 _ W ((hids y hy).later hW) (ints_one _) (by have:=hl y hy;unfold maxLen;omega) (by have:=hl y hy;omega)
  have c8:=hB.cell h8
  obtain⟨ma,mc,rfl⟩:=hS.form
  have HSL:Hid (∀y∈tl,IsSl y.2):=hsl
  clear hB hS hids hl h8 hsl
  go_enter func104,ntmps104
  go_wp2_with fail
  go_fit hC
  rintro e w1 ⟨⟨v1,rfl,hr1⟩,hb1⟩
  obtain⟨a1,k1,rfl⟩:=row_shape3 hr1
  have HR:Hid (w1.ownsRow w.heap.size 110 2 (.slice a1 tl.length k1) tl.length (tl.flatMap cTp)):=hr1
  have HB1:Hid (Below w.heap.size w w1):=hb1
  clear hC hr1 hb1 c8
  go_wp2_with fail
  go_loopw [4,12] (λ_ iv wr=>∃ts:List Tp,ts.length<=tl.length/\iv=.int .i64 ts.length/\Hid (ts.map Prod.fst=(tl.take ts.length).map Prod.fst)/\Hid (wr.ownsRow w.heap.size 110 2 (.slice a1 tl.length k1) tl.length ((ts++tl.drop ts.length).flatMap cTp))/\Hid (∀y∈ts,wr.ownsRow w.heap.size 3 1 y.2 y.1.2.length (y.1.2.map cI))/\Hid (ts.Pairwise λa b=>∀g,a.2.ownBlock=some g->b.2.ownBlock≠some g)/\Hid (Below w.heap.size w wr)) (λ_ i _=>tl.length-(intOf i).toNat)
  case atStart=>exact⟨[],Nat.zero_le _,rfl,rfl,by simpa using HR,by simp[Hid],List.Pairwise.nil,HB1⟩
  case round=>
    obtain⟨ts,hk,rfl,hfst,hr,hi,hap,hb⟩:=hrel
    have HK:Hid (ts.length<=tl.length):=hk
    obtain⟨k,hkk⟩:∃k,k=ts.length:=⟨_,rfl⟩
    rw[<-hkk] at hfst hr hk ⊢
    have HKK:Hid (k=ts.length):=hkk
    clear hkk
    by_cases hlk:k<tl.length
    · have HT:Hid (ts++tl.drop k=ts++tl[k]::tl.drop (k+1)):=by show _=_;rw[List.drop_eq_getElem_cons hlk]
      obtain⟨g,cap',hv⟩:∃g cap',(Value.slice a1 tl.length k1)=.slice (some ⟨g,0,none⟩) tl.length cap':=by
        rcases hr.out.2 with ⟨h,h0⟩|⟨g,cap',cur,e,_⟩
        · omega
        · exact⟨g,cap',e⟩
      cases hv
      obtain⟨ia,il,ic,hiv⟩:=HSL.out _ (List.getElem_mem hlk)
      have hcell:=hr.out.cells (g:=g) rfl
      have d1:wr.cell? ⟨g,k*2+1,none⟩=some (.slice ia il ic):=by
        have h2:=hcell (k*2+1) (.slice ia il ic) (by
          rw[HT.out,List.flatMap_append,List.getElem?_append_right (by rw[flat_len cTp 2 (λ_=>rfl),<-HKK.out];omega),flat_len cTp 2 (λ_=>rfl),<-HKK.out,<-hiv,List.flatMap_cons,Nat.add_sub_cancel_left]
          rfl)
        rw[addr_add,Nat.zero_add] at h2
        exact h2
      have hfr:wr.frozen? ⟨g,k*2+1,none⟩=false:=(Sl.of_row hr.out).fr _
      have hgl:=jcell_lt d1
      have hCl:=HI.out wr hb.out tl[k] (List.getElem_mem hlk)
      rw[hiv] at hCl
      clear hiv hcell
      go_wp2_with fail
      go_fit hCl
      rintro e w2 ⟨⟨v2,rfl,hr2⟩,hb2⟩
      obtain⟨a2,k2,rfl⟩:=row_shape3 hr2
      have e1:=jcell_after hb2 d1
      have hfr2:w2.frozen? ⟨g,k*2+1,none⟩=false:=(World.frozen?_of_block (w:=wr) (hb2.block g hgl)).trans hfr
      have HR2:Hid (w2.ownsRow wr.heap.size 3 1 (.slice a2 tl[k].1.2.length k2) tl[k].1.2.length (tl[k].1.2.map cI)):=hr2
      have HB2:Hid (Below wr.heap.size wr w2):=hb2
      clear hr2 hb2 hCl d1 hfr
      obtain⟨y,hy⟩:∃y,y=tl[k]:=⟨_,rfl⟩
      rw[<-hy] at HR2 ⊢
      have HF2:Hid ((tl.take (k+1)).map Prod.fst=(tl.take k).map Prod.fst++[y.1]):=by
        show _=_
        rw[List.take_succ_eq_append_getElem hlk,List.map_append,hy];rfl
      rw[<-hy] at HT
      clear hy
      obtain⟨m,hm⟩:∃m,m=y.1.2.length:=⟨_,rfl⟩
      rw[<-hm] at HR2 ⊢
      have HM:Hid (m=y.1.2.length):=hm
      clear hm
      go_wp2_with fail
      have hbg:wr.grownBy w2 none:=⟨HB2.out.os,HB2.out.tape,HB2.out.output,HB2.out.size,λq hq _=>HB2.out.block q hq⟩
      obtain⟨hst,hgr⟩:=(World.ownsRow.kept hr.out hbg (Classical.em _)).stored (k*2+1) (.slice a2 m k2)
      rw[HT.out,HKK.out,flat_put,<-HKK.out] at hst
      have hlow:=HB2.out.size
      have hlw:=hb.out.size
      have hne:∀{n':Nat} {u:Value} {ys:List Value} {W:World} {b':Nat},W.ownsRow b' 3 1 u n' ys->W.ownsRow w.heap.size 110 2 (.slice (some ⟨g,0,none⟩) tl.length k1) tl.length ((ts++tl.drop k).flatMap cTp)->u.ownBlock=none\/u.ownBlock≠some g:=λh1 h2=>.inr λe=>(Sl.of_row h1).apart (Sl.of_row h2) (by decide) e rfl
      have hk2:(ts++[(y.1,(.slice a2 m k2:Value))]).length=k+1:=by rw[List.length_append,HKK.out];rfl
      refine⟨⟨ts++[(y.1,.slice a2 m k2)],by rw[hk2];omega,by rw[hk2];go_num,?_,?_,?_,?_,?_⟩,by simp[intOf];omega⟩
      · show List.map _ _=_
        rw[hk2,HF2.out,List.map_append,hfst.out];rfl
      · show World.ownsRow _ _ _ _ _ _ _
        rw[hk2]
        exact hst
      · intro z hz
        rcases List.mem_append.1 hz with hz|hz
        · have h1:=World.ownsRow.kept (hi.out z hz) hbg (Classical.em _)
          exact World.ownsRow.kept h1 hgr (hne h1 (World.ownsRow.kept hr.out hbg (Classical.em _)))
        · obtain rfl:=List.mem_singleton.1 hz
          have h1:=World.ownsRow.kept (row_low HR2.out hlw) hgr (hne HR2.out (World.ownsRow.kept hr.out hbg (Classical.em _)))
          show World.ownsRow _ _ _ _ _ y.1.2.length _
          rw[<-HM.out]
          exact h1
      · show List.Pairwise _ _
        rw[List.pairwise_append]
        refine⟨hap.out,by simp,λz hz z' hz' q hq e=>?_⟩
        obtain rfl:=List.mem_singleton.1 hz'
        have h1:=(World.ownsRow.lt (hi.out z hz) q hq).2
        have h2:=(World.ownsRow.lt HR2.out q e).1
        omega
      · exact(hb.out.trans (HB2.out.mono hlw)).grown hgr (Nat.le_trans hlw hlow) (λj hj=>by cases hj;exact(World.ownsRow.lt hr.out g rfl).1)
    · have hk2:ts.length=tl.length:=by have:=HKK.out;have:=HK.out;omega
      have HL:Hid (ts.map Prod.fst=tl.map Prod.fst/\wr.ownsRow w.heap.size 110 2 (.slice a1 tl.length k1) ts.length (ts.flatMap cTp)):=by
        have h1:=hfst.out
        have h2:=hr.out
        rw[HKK.out,hk2,List.take_length] at h1
        rw[HKK.out,hk2,List.drop_length,List.append_nil] at h2
        rw[hk2]
        exact⟨h1,h2⟩
      obtain rfl:k=tl.length:=by omega
      clear hk2
      go_wp2_with fail
      go_ret
      exact⟨⟨_,ts,rfl,HL.out.1,HL.out.2,hi.out,hap.out⟩,hb.out⟩
section
open Go.Shelf
structure BegIs (w W:World)(S:Nat->Prop)(yb n0:Nat)(c:Cfg)(s:Ts)(qv:Value)(sb:Nat)(ov:Value)(x:Xt)(zs:List (Nat×Sm))(b2 bm:Nat)(t:Bs):Prop where
  only:OnlyT w W S [201,240]
  yard:Bx W yb 201 (yardCells c x t.b s.now qv sb s.outs.length ov)
  segs:∀z∈zs,SegAt W (Plus S w) (s.top n0) (z.1,t.sg z.1)
  box:Bx W b2 132 #[.map (some bm)]
  me:Bx W w.heap.size 130 #[.pointer (some ⟨yb,0,none⟩)]
theorem BegIs.own {w:World}{S:Nat->Prop}{yb n0:Nat}{c:Cfg}{s:Ts}{qv:Value}{sb:Nat}{ov:Value}{x:Xt}{zs:List (Nat×Sm)}{b2 bm:Nat}{t:Bs}{W W':World}{row:Option Nat}{B:Nat}(h:BegIs w W S yb n0 c s qv sb ov x zs b2 bm t)(hw:w.heap.size<B)(hy:yb<B)(h2:b2<B)(hg:W.grownBy W' row)(hr:∀r,row=some r->B<=r/\∃o:Obj,W.heap[r]? =some o/\o.isCells=false):BegIs w W' S yb n0 c s qv sb ov x zs b2 bm t:=
  ⟨h.only.own (Nat.le_of_lt hw) hg λr e=>(hr r e).1,bx_own h.yard hg (λr e=>(hr r e).1) hy,λz hz=>(h.segs z hz).keptT (KeepT.own hg λr e=>(hr r e).2) (λ_ h=>h) (Nat.le_refl _) (by decide) (by unfold NoSeg;decide),bx_own h.box hg (λr e=>(hr r e).1) h2,bx_own h.me hg (λr e=>(hr r e).1) hw⟩
theorem map_own {W W':World}{row:Option Nat}{B bm n:Nat}{g:ByteArray->ByteArray}(h:FilesMap W bm n g)(hg:W.grownBy W' row)(hr:∀r,row=some r->B<=r)(hb:bm<B):FilesMap W' bm n g:=h.same (hg.block bm h.lt λe=>by have:=hr bm e.symm;omega)
theorem BegIs.step {w:World}{S:Nat->Prop}{yb n0:Nat}{c:Cfg}{s:Ts}{qv:Value}{sb:Nat}{ov:Value}{x:Xt}{zs:List (Nat×Sm)}{b2 b3 bm p:Nat}{t t':Bs}{W W':World}{cb3:Array Value}{n:Nat}{g:ByteArray->ByteArray}(h:BegIs w W S yb n0 c s qv sb ov x zs b2 bm t){y:Sm}(hp:(p,y)∈zs)(hSy:S yb)(hSp:S p)(hyw:yb<w.heap.size)(hpw:p<w.heap.size)(hTp:TyAt w p 240)(hTy:TyAt w yb 201)(hb3:Bx W b3 3 cb3)(hbm:FilesMap W bm n g)(hw3:w.heap.size<=b3)(hwm:w.heap.size<=bm)(hO:Only W W' (λk=>k=bm\/k=b3\/k=yb\/k=p))(hy:Bx W' yb 201 (yardCells c x t'.b s.now qv sb s.outs.length ov))(hs:SegAt W' (Plus S w) (s.top n0) (p,t'.sg p))(hsg:∀k,k≠p->t'.sg k=t.sg k):BegIs w W' S yb n0 c s qv sb ov x zs b2 bm t':=by
  have T3:=hb3.ty
  have Tm:=hbm.ty
  have Ty:=h.yard.ty
  have Tp:TyAt W p 240:=by
    obtain⟨_,_,_,hz⟩:=h.segs (p,y) hp
    exact hz.box.ty
  have keep:∀k ty,TyAt W k ty->ty∉[tMap,3,201,240]->W'.heap[k]? =W.heap[k]? :=λk ty hk hn=>hO.block k hk.lt λe=>by
    rcases e with rfl|rfl|rfl|rfl
    · exact hn (by rw[hk.one Tm];simp)
    · exact hn (by rw[hk.one T3];simp)
    · exact hn (by rw[hk.one Ty];simp)
    · exact hn (by rw[hk.one Tp];simp)
  have K:KeepT W W' [tMap,3,201,240]:=⟨hO.size,λk ty hk hn=>keep k ty hk hn⟩
  refine⟨⟨hO.os.trans (Only.os h.only),hO.tape.trans (Only.tape h.only),hO.output.trans (Only.output h.only),Nat.le_trans h.only.size hO.size,λk hk hn=>?_⟩,hy,λz hz=>?_,(keep _ _ h.box.ty (by decide)).trans h.box,(keep _ _ h.me.ty (by decide)).trans h.me⟩
  · refine(hO.block k (Nat.lt_of_lt_of_le hk h.only.size) λe=>?_).trans (Only.block h.only k hk hn)
    rcases e with rfl|rfl|rfl|rfl
    · omega
    · omega
    · exact hn ⟨hSy,_,by simp,hTy⟩
    · exact hn ⟨hSp,_,by simp,hTp⟩
  · by_cases e:z.1=p
    · rw[e];exact hs
    · rw[hsg _ e]
      obtain⟨cv,jv,cl,hseg⟩:=h.segs z hz
      refine⟨cv,jv,cl,(hO.block _ hseg.box.lt λe'=>?_).trans hseg.box,hseg.chs.keptT K (λ_ h=>h) (by decide) (by decide),hseg.job.keptT K (λ_ h=>h) (Nat.le_refl _) (by decide) (by decide),hseg.own⟩
      have Tz:=hseg.box.ty
      rcases e' with rfl|rfl|rfl|rfl
      · exact absurd (Tz.one Tm) (by decide)
      · exact absurd (Tz.one T3) (by decide)
      · exact absurd (Tz.one Ty) (by decide)
      · exact e rfl
theorem BegIs.done {w:World}{S:Nat->Prop}{yb mb n0:Nat}{c:Cfg}{s:Ts}{q:List Pw}{qv:Value}{sb:Nat}{ov:Value}{x:Xt}{tl:List Tp}{zs:List (Nat×Sm)}{b2 bm:Nat}{t:Bs}{W:World}(hZ:YardZ w S yb mb n0 c s q sb qv ov x tl zs)(h:BegIs w W S yb n0 c s qv sb ov x zs b2 bm t)(he:begins c s.now c.window s.segs s.tip s.begun=(zs.map λz=>t.sg z.1,t.b)):YardZ W (Plus S w) yb mb n0 c (s.begin c) q sb qv ov x tl (zs.map λz=>(z.1,t.sg z.1)):=by
  have O:=h.only
  have hp:=Plus.old (S:=S) w
  have hB:(s.begin c).begun=t.b:=by unfold Ts.begin;rw[he]
  have hSg:(s.begin c).segs=zs.map λz=>t.sg z.1:=by unfold Ts.begin;rw[he]
  refine YardZ.mk' ⟨hZ.is.np,Nat.lt_of_lt_of_le hZ.rest.ml O.size,hZ.rest.tip.imp (λe=>e) .inl,O.map hZ.rest.map (by decide),hZ.rest.main.keptT O.k hp (by decide) (by decide),?_,?_,hZ.rest.train.own.mono hp,?_,λz hz=>?_⟩ hZ.is.qs ?_ (hZ.is.que.keptT O.k hp (by decide) (by decide)) (O.sub hZ.is.sub (by decide)) (hZ.is.outs.keptT O.k hp (by decide)) (.inl hZ.is.fy) (.inl hZ.is.fs) hZ.is.nt
  · rw[List.map_map,hSg];rfl
  · have:=O.sl hZ.rest.train.row (by decide)
    rw[List.length_map,List.map_map]
    exact this
  · have:=hZ.rest.train.nd
    rw[List.map_map]
    exact this
  · obtain⟨z',hz',rfl⟩:=List.mem_map.1 hz
    exact h.segs z' hz'
  · rw[hB];exact h.yard
def sgOf (zs:List (Nat×Sm))(p:Nat):Sm:=((zs.find? λz=>z.1==p).map Prod.snd).getD (Sm.new [])
theorem sgOf_mem {p:Nat}{y:Sm}:∀{zs:List (Nat×Sm)},(zs.map Prod.fst).Nodup->(p,y)∈zs->sgOf zs p=y
  |[],_,h=>by cases h
  |a::l,hn,h=>by
    rw[List.map_cons,List.nodup_cons] at hn
    unfold sgOf
    rw[List.find?_cons]
    by_cases e:a.1=p
    · have:a=(p,y):=by
        rcases List.mem_cons.1 h with h|h
        · exact h.symm
        · exact absurd (List.mem_map.2 ⟨_,h,e.symm⟩) hn.1
      simp[this]
    · have hm:(p,y)∈l:=by
        rcases List.mem_cons.1 h with h|h
        · exact absurd (by rw[<-h]) e
        · exact h
      have:=sgOf_mem hn.2 hm
      unfold sgOf at this
      rw[show (a.1==p)=false by simpa using e]
      exact this
def bs0 (c:Cfg)(s:Ts)(zs:List (Nat×Sm)):Bs:=⟨sgOf zs,s.tip,s.begun,c.window⟩
theorem bs0_segs {c:Cfg}{s:Ts}{zs:List (Nat×Sm)}(hn:(zs.map Prod.fst).Nodup)(hs:zs.map Prod.snd=s.segs):(zs.map Prod.fst).map (bs0 c s zs).sg=s.segs:=by
  rw[<-hs,List.map_map]
  exact List.map_congr_left λz hz=>sgOf_mem hn hz
theorem bs_begins {c:Cfg}{s:Ts}{zs:List (Nat×Sm)}(hn:(zs.map Prod.fst).Nodup)(hs:zs.map Prod.snd=s.segs)(m rest:List Nat)(hm:zs.map Prod.fst=m++rest)(hg:(bs0 c s zs).goes c s.now m)(hr:rest=[]\/∃p l,rest=p::l/\¬((bs0 c s zs).all c s.now m).go c p):
    begins c s.now c.window s.segs s.tip s.begun=(zs.map λz=>((bs0 c s zs).all c s.now m).sg z.1,((bs0 c s zs).all c s.now m).b):=by
  have:=begins_seq (c:=c) (now:=s.now) m rest (bs0 c s zs) (hm▸hn) hg hr
  rw[<-hm,bs0_segs hn hs,List.map_map] at this
  exact this
def BegInv (w W:World)(S:Nat->Prop)(yb n0:Nat)(c:Cfg)(s:Ts)(qv:Value)(sb:Nat)(ov:Value)(x:Xt)(zs:List (Nat×Sm))(b2 b3 bm:Nat)(pre:List Nat):Prop:=
  BegIs w W S yb n0 c s qv sb ov x zs b2 bm ((bs0 c s zs).all c s.now pre)/\Bx W b3 3 #[.int .i64 ((bs0 c s zs).all c s.now pre).r]/\FilesMap W bm (x.n+32*pre.length) ((bs0 c s zs).all c s.now pre).g/\(bs0 c s zs).goes c s.now pre
def BegEnd (w W:World)(S:Nat->Prop)(yb n0:Nat)(c:Cfg)(s:Ts)(qv:Value)(sb:Nat)(ov:Value)(x:Xt)(zs:List (Nat×Sm))(b2 bm:Nat)(cd:Code)(pre:List Nat):Prop:=
  cd=.ret/\∃l p,pre=l++[p]/\BegIs w W S yb n0 c s qv sb ov x zs b2 bm ((bs0 c s zs).all c s.now l)/\(bs0 c s zs).goes c s.now l/\¬((bs0 c s zs).all c s.now l).go c p
theorem BegInv.own {w:World}{S:Nat->Prop}{yb n0:Nat}{c:Cfg}{s:Ts}{qv:Value}{sb:Nat}{ov:Value}{x:Xt}{zs:List (Nat×Sm)}{b2 b3 bm B:Nat}{ps:List Nat}(hw:w.heap.size<B)(hy:yb<B)(h2:b2<B)(h3:b3<B)(hm:bm<B):OwnFrom B (λ(pre:List (Pt ps)) W=>BegInv w W S yb n0 c s qv sb ov x zs b2 b3 bm (pre.map Subtype.val)):=λ_ _ _ _ hs hg hr=>
  ⟨hs.1.own hw hy h2 hg hr,bx_own hs.2.1 hg (λr e=>(hr r e).1) h3,map_own hs.2.2.1 hg (λr e=>(hr r e).1) hm,hs.2.2.2⟩
theorem BegEnd.own {w:World}{S:Nat->Prop}{yb n0:Nat}{c:Cfg}{s:Ts}{qv:Value}{sb:Nat}{ov:Value}{x:Xt}{zs:List (Nat×Sm)}{b2 bm B:Nat}{ps:List Nat}(hw:w.heap.size<B)(hy:yb<B)(h2:b2<B)(cd:Code):OwnFrom B (λ(pre:List (Pt ps)) W=>BegEnd w W S yb n0 c s qv sb ov x zs b2 bm cd (pre.map Subtype.val)):=λ_ _ _ _ hs hg hr=>by
  obtain⟨rfl,l,p,e,h,h1,h2'⟩:=hs
  exact⟨rfl,l,p,e,h.own hw hy h2 hg hr,h1,h2'⟩
theorem Bs.all_same (c:Cfg)(now:Nat):∀(l:List Nat) (t:Bs) (p:Nat),((t.all c now l).sg p).l=(t.sg p).l/\((t.all c now l).sg p).fails=(t.sg p).fails/\((t.all c now l).sg p).by_=(t.sg p).by_
  |[],_,_=>⟨rfl,rfl,rfl⟩
  |k::l,t,p=>by
    have h:=Bs.all_same c now l (t.step c now k) p
    have h2:((t.step c now k).sg p).l=(t.sg p).l/\((t.step c now k).sg p).fails=(t.sg p).fails/\((t.step c now k).sg p).by_=(t.sg p).by_:=by
      unfold Bs.step Bs.put
      by_cases e:p=k
      · subst e
        simp only[if_true]
        split<;>simp
      · simp only[if_neg e,and_self]
    show ((((t.step c now k).all c now l).sg p).l=_)/\_
    exact⟨h.1.trans h2.1,h.2.1.trans h2.2.1,h.2.2.trans h2.2.2⟩
theorem BegIs.drewN {w:World}{S:Nat->Prop}{yb n0:Nat}{c:Cfg}{s:Ts}{qv:Value}{sb:Nat}{ov:Value}{x:Xt}{zs:List (Nat×Sm)}{b2 bm:Nat}{t:Bs}{W:World}(h:BegIs w W S yb n0 c s qv sb ov x zs b2 bm t)(n:Nat):BegIs w (W.drewN n) S yb n0 c s qv sb ov x zs b2 bm t:=
  ⟨h.only.drewN n,h.yard,λz hz=>(h.segs z hz).keptT (KeepT.drewN W n) (λ_ h=>h) (Nat.le_refl _) (by decide) (by unfold NoSeg;decide),h.box,h.me⟩
theorem BegIs.bmOnly {w:World}{S:Nat->Prop}{yb n0:Nat}{c:Cfg}{s:Ts}{qv:Value}{sb:Nat}{ov:Value}{x:Xt}{zs:List (Nat×Sm)}{b2 bm:Nat}{t:Bs}{W W':World}{n:Nat}{g:ByteArray->ByteArray}(h:BegIs w W S yb n0 c s qv sb ov x zs b2 bm t)(hbm:FilesMap W bm n g)(hwm:w.heap.size<=bm)(hO:Only W W' (λk=>k=bm)):BegIs w W' S yb n0 c s qv sb ov x zs b2 bm t:=by
  have Tm:=hbm.ty
  have keep:∀k ty,TyAt W k ty->ty∉[tMap]->W'.heap[k]? =W.heap[k]? :=λk ty hk hn=>hO.block k hk.lt λe=>by
    subst e
    exact hn (by rw[hk.one Tm];simp)
  have K:KeepT W W' [tMap]:=⟨hO.size,λk ty hk hn=>keep k ty hk hn⟩
  exact⟨⟨hO.os.trans (Only.os h.only),hO.tape.trans (Only.tape h.only),hO.output.trans (Only.output h.only),Nat.le_trans h.only.size hO.size,λk hk hn=>(hO.block k (Nat.lt_of_lt_of_le hk h.only.size) (by omega)).trans (Only.block h.only k hk hn)⟩,(keep _ _ h.yard.ty (by decide)).trans h.yard,λz hz=>(h.segs z hz).keptT K (λ_ h=>h) (Nat.le_refl _) (by decide) (by unfold NoSeg;decide),(keep _ _ h.box.ty (by decide)).trans h.box,(keep _ _ h.me.ty (by decide)).trans h.me⟩
theorem keeps_below {W W':World}{B:Nat}{T:Nat->Prop}(hO:Only W W' T)(hT:∀k,T k->k<B):KeepsFrom B W W':=⟨hO.size,λk _ hB hk _=>(hO.block k (Array.getElem?_eq_some_iff.1 hk).1 λe=>by have:=hT k e;omega).trans hk⟩
theorem seg_len {y:Sm}:∀{l:List Sm},y∈l->y.l.length<=trainLen l
  |[],h=>by cases h
  |x::l,h=>by
    unfold trainLen
    rw[List.map_cons,List.sum_cons]
    rcases List.mem_cons.1 h with rfl|h
    · omega
    · have:=seg_len h
      unfold trainLen at this
      omega
theorem Bs.all_r (c:Cfg)(now:Nat):∀(l:List Nat) (t:Bs),(t.all c now l).r<=t.r
  |[],_=>Nat.le_refl _
  |k::l,t=>Nat.le_trans (Bs.all_r c now l (t.step c now k)) (Nat.sub_le _ _)
theorem Bs.all_b (c:Cfg)(now:Nat):∀(l:List Nat) (t:Bs),(t.all c now l).b<=t.b+l.length
  |[],_=>Nat.le_refl _
  |k::l,t=>by
    have h:=Bs.all_b c now l (t.step c now k)
    have h2:(t.step c now k).b<=t.b+1:=by
      unfold Bs.step
      simp only
      split<;>omega
    show ((t.step c now k).all c now l).b<=_
    rw[List.length_cons]
    omega
end
end Go.Proofs.YtgamgomepdfgdaaGreat
