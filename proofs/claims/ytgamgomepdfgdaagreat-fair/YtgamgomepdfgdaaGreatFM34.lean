import Derived.Test.YtgamgomepdfgdaaGreatFM33
import Derived.Test.YtgamgomepdfgdaaGreatFM25
import Derived.Test.YtgamgomepdfgdaaGreatFM21
set_option maxRecDepth 100000
set_option maxHeartbeats 8000000
namespace Go.Proofs.YtgamgomepdfgdaaGreat
open Go.RowKit Go.Proofs.Tryz
theorem jobs_nd:∀(l:List Sm) (acc:List Nat),l.Pairwise JobsNe->(jobsOf l acc).Pairwise λa b=>a.1≠b.1
  |[],_,_=>List.Pairwise.nil
  |x::l,acc,h=>by
    rw[List.pairwise_cons] at h
    rw[jobsOf_cons,List.pairwise_append]
    refine⟨by unfold jb;split<;>simp,jobs_nd l _ h.2,λa ha b hb=>?_⟩
    refine jobsOf_mem (P:=λb=>a.1≠b.1) l _ (λz hz acc' y hy=>?_) b hb
    unfold jb at ha hy
    cases e1:x.job with
    |none=>rw[e1] at ha;cases ha
    |some j=>
      cases e2:z.job with
      |none=>rw[e2] at hy;cases hy
      |some k=>
        rw[e1] at ha
        rw[e2] at hy
        simp only[List.mem_singleton] at ha hy
        rw[ha,hy]
        exact h.1 z hz j k e1 e2
theorem rkG_le {α:Type}{lane:α->Nat}{q:List α}:∀L,(rkG lane q L).Pairwise λa b=>lane a<=lane b
  |0=>by simp[rkG]
  |L+1=>by
    rw[rkG_succ,List.pairwise_append]
    refine⟨rkG_le L,?_,λa ha b hb=>?_⟩
    · refine List.Pairwise.imp_of_mem (R:=λ_ _=>True) (fun {a b} ha hb _=>?_) (List.pairwise_of_forall λ_ _=>trivial)
      have h1:=(List.mem_filter.1 ha).2
      have h2:=(List.mem_filter.1 hb).2
      simp at h1 h2
      omega
    · have h1:=rkG_mem ha
      have h2:=(List.mem_filter.1 hb).2
      simp at h2
      omega
theorem rise_eq {α:Type}{f:α->Nat}:∀{l l':List α},l.Perm l'->l.Pairwise (λa b=>f a<f b)->l'.Pairwise (λa b=>f a<f b)->l=l'
  |[],l',hp,_,_=>hp.nil_eq
  |a::l,[],hp,_,_=>absurd hp.symm.nil_eq (by simp)
  |a::l,b::l',hp,h1,h2=>by
    rw[List.pairwise_cons] at h1 h2
    have e:a=b:=by
      have ha:a∈b::l':=hp.mem_iff.1 List.mem_cons_self
      have hb:b∈a::l:=hp.mem_iff.2 List.mem_cons_self
      rcases List.mem_cons.1 ha with ha|ha
      · exact ha
      · rcases List.mem_cons.1 hb with hb|hb
        · exact hb.symm
        · have:=h1.1 b hb
          have:=h2.1 a ha
          omega
    subst e
    rw[rise_eq (List.Perm.cons_inv hp) h1.2 h2.2]
theorem Ts.Inv.rises {c:Cfg}{s:Ts}(h:s.Inv c){l:List Jbt}(hp:l.Perm (jobsOf s.segs []))(hs:l.Pairwise λa b=>¬b.1<a.1):l=s.jobs:=by
  have hlt:∀y∈jobsOf s.segs [],y.1<s.begun+1:=jobsOf_mem _ _ λx hx a y hy=>by
    unfold jb at hy
    cases e:x.job with
    |none=>rw[e] at hy;cases hy
    |some j=>
      rw[e] at hy
      simp only[List.mem_singleton] at hy
      rw[hy]
      have:=((h.sm x hx).job j e).2.2.2.1
      show j.num<_
      omega
  have hq:s.jobs.Perm (jobsOf s.segs []):=rkG_perm hlt
  have hnd:=jobs_nd s.segs [] h.jobs
  have hsym:∀{a b:Jbt},a.1≠b.1->b.1≠a.1:=λh e=>h e.symm
  have n1:=(List.Perm.pairwise_iff hsym hp).2 hnd
  have n2:=(List.Perm.pairwise_iff hsym hq).2 hnd
  refine rise_eq (f:=λy=>y.1) (hp.trans hq.symm) ((hs.and n1).imp fun {a b} h=>?_) (((rkG_le (s.begun+1)).and n2).imp fun {a b} h=>?_)
  · have:=h.1;have:=h.2;omega
  · have:=h.1;have:=h.2;omega
theorem segs_eight {c:Cfg}{s:Ts}(hI:s.Inv c){w:World}{S:Nat->Prop}{yb mb n0:Nat}{q:List Pw}{sb:Nat}{qv ov:Value}{x:Xt}{tl:List Tp}{zs:List (Nat×Sm)}(h:YardZ w S yb mb n0 c s q sb qv ov x tl zs):zs.length<=8/\∀z∈zs,1<=z.2.l.length/\z.2.l.length<=8:=by
  have h1:=seg_count hI.sm
  have h2:=hI.tr
  have h3:(zs.map Prod.snd).length=s.segs.length:=by rw[h.rest.train.snd]
  rw[List.length_map] at h3
  refine⟨by omega,λz hz=>?_⟩
  have hm:z.2∈s.segs:=by rw[<-h.rest.train.snd];exact List.mem_map_of_mem hz
  have h4:=seg_len hm
  have h5:=(hI.sm z.2 hm).ne
  have h6:z.2.l.length≠0:=λe=>h5 (List.eq_nil_of_length_eq_zero e)
  omega
theorem mMain_up (Y:Nat->Prop)(xb mb n0 rb yb:Nat)(c:Cfg)(s:Ts)(L:List UInt8)(br:Bool)(keep:Int)(lv:Value)(w:World)(hU:UpIs w Y xb mb n0 rb yb c s L br keep lv)(hn:s.main.length<1048576000)(hm:∀y∈s.main,y.2.length<=8):
    Calls prog 66 #[.pointer (some ⟨xb,0,none⟩)] w λe w'=>(∃v l,e=.returned (.tuple #[v,.int .i64 0])/\l.map Prod.fst=s.main/\TipsOut w.heap.size w' v l)/\Below w.heap.size w w':=by
  obtain⟨q,sb,qv,ov,xt,hy,hx⟩:=hU.yard
  obtain⟨tl,zs,hz⟩:=hy.z
  have hT:Calls prog 104 #[.pointer (some ⟨yb,0,none⟩)] w λe w'=>(∃v l,e=.returned v/\IsSl v/\l.map Prod.fst=s.main/\TipsOut w.heap.size w' v l)/\Below w.heap.size w w':=by
    have hM:=hz.rest.main
    have hlen:tl.length=s.main.length:=by rw[<-hM.fst,List.length_map]
    refine(yMain yb _ xt.mv tl w hy.box rfl hM.row (λy hy=>(hM.ids y hy).1) (by omega) (λy hy=>hm y.1 (by rw[<-hM.fst];exact List.mem_map_of_mem hy))).mono ?_
    rintro e w1 ⟨⟨v',tl',rfl,h1,h2⟩,hb⟩
    obtain⟨a,k,rfl⟩:=row_shape3 h2.row
    exact⟨⟨_,tl',rfl,⟨_,_,_,rfl⟩,h1.trans hM.fst,h2⟩,hb⟩
  have c9:w.cell? ⟨xb,9,none⟩=some (.pointer (some ⟨rb,0,none⟩)):=hU.box.cell (i:=9) rfl
  have r0:w.cell? ⟨rb,0,none⟩=some (.pointer (some ⟨yb,0,none⟩)):=hU.run.cell (i:=0) rfl
  clear hU hy hx hz hn hm
  have hTell:Calls prog 103 #[.pointer (some ⟨xb,0,none⟩),.func (.func 104) #[] #[]] w λe w'=>(∃v l,e=.returned (.tuple #[v,.int .i64 0])/\IsSl v/\l.map Prod.fst=s.main/\TipsOut w.heap.size w' v l)/\Below w.heap.size w w':=by
    go_enter func103,ntmps103
    go_wp2_with fail
    go_fit hT
    rintro e w1 ⟨⟨v,l,rfl,⟨va,vn,vc,rfl⟩,h1⟩,hb⟩
    have H1:=hidd h1
    clear h1 hT
    go_wp2_with fail
    refine bodyPost_ret (by simp[results,results103,go_sem];rfl) rfl ⟨⟨_,l,by rfl,⟨_,_,_,rfl⟩,H1.out⟩,hb⟩
  clear hT
  go_enter func66,ntmps66
  go_wp2_with fail
  go_fit hTell
  rintro e w1 ⟨⟨v,l,rfl,⟨va,vn,vc,rfl⟩,h1⟩,hb⟩
  have H1:=hidd h1
  clear h1 hTell
  go_wp2_with fail
  refine bodyPost_ret (by simp[results,results66,go_sem];rfl) rfl ⟨⟨_,l,by rfl,H1.out⟩,hb⟩
theorem mTrain_up (Y:Nat->Prop)(xb mb n0 rb yb:Nat)(c:Cfg)(s:Ts)(L:List UInt8)(br:Bool)(keep:Int)(lv:Value)(w:World)(hU:UpIs w Y xb mb n0 rb yb c s L br keep lv)(hI:s.Inv c):
    Calls prog 69 #[.pointer (some ⟨xb,0,none⟩)] w λe w'=>(∃v l,e=.returned (.tuple #[v,.int .i64 0])/\l.map Prod.fst=s.segs.map tellS/\SegsOut w.heap.size w' v l)/\Below w.heap.size w w':=by
  obtain⟨q,sb,qv,ov,xt,hy,hx⟩:=hU.yard
  obtain⟨tl,zs,hz⟩:=hy.z
  have hT:Calls prog 106 #[.pointer (some ⟨yb,0,none⟩)] w λe w'=>(∃v l,e=.returned v/\IsSl v/\l.map Prod.fst=s.segs.map tellS/\SegsOut w.heap.size w' v l)/\Below w.heap.size w w':=by
    obtain⟨h1,h2⟩:=segs_eight hI hz
    refine(yTrain hz h1 λz hz=>(h2 z hz).2).mono ?_
    rintro e w1 ⟨⟨v',gs,rfl,h1,h2⟩,hb⟩
    obtain⟨a,k,rfl⟩:=row_shape3 h2.row
    exact⟨⟨_,gs,rfl,⟨_,_,_,rfl⟩,h1,h2⟩,hb⟩
  have c9:w.cell? ⟨xb,9,none⟩=some (.pointer (some ⟨rb,0,none⟩)):=hU.box.cell (i:=9) rfl
  have r0:w.cell? ⟨rb,0,none⟩=some (.pointer (some ⟨yb,0,none⟩)):=hU.run.cell (i:=0) rfl
  clear hU hy hx hz hI
  have hTell:Calls prog 105 #[.pointer (some ⟨xb,0,none⟩),.func (.func 106) #[] #[]] w λe w'=>(∃v l,e=.returned (.tuple #[v,.int .i64 0])/\IsSl v/\l.map Prod.fst=s.segs.map tellS/\SegsOut w.heap.size w' v l)/\Below w.heap.size w w':=by
    go_enter func105,ntmps105
    go_wp2_with fail
    go_fit hT
    rintro e w1 ⟨⟨v,l,rfl,⟨va,vn,vc,rfl⟩,h1⟩,hb⟩
    have H1:=hidd h1
    clear h1 hT
    go_wp2_with fail
    refine bodyPost_ret (by simp[results,results105,go_sem];rfl) rfl ⟨⟨_,l,by rfl,⟨_,_,_,rfl⟩,H1.out⟩,hb⟩
  clear hT
  go_enter func69,ntmps69
  go_wp2_with fail
  go_fit hTell
  rintro e w1 ⟨⟨v,l,rfl,⟨va,vn,vc,rfl⟩,h1⟩,hb⟩
  have H1:=hidd h1
  clear h1 hTell
  go_wp2_with fail
  refine bodyPost_ret (by simp[results,results69,go_sem];rfl) rfl ⟨⟨_,l,by rfl,H1.out⟩,hb⟩
theorem mJobs_up (Y:Nat->Prop)(xb mb n0 rb yb:Nat)(c:Cfg)(s:Ts)(L:List UInt8)(br:Bool)(keep:Int)(lv:Value)(w:World)(hU:UpIs w Y xb mb n0 rb yb c s L br keep lv)(hI:s.Inv c)(htop:s.top n0<4398046511104):
    Calls prog 70 #[.pointer (some ⟨xb,0,none⟩)] w λe w'=>(∃v l,e=.returned (.tuple #[v,.int .i64 0])/\l.map Prod.fst=s.jobs/\JobsOut w.heap.size (s.top n0) w' v l)/\Below w.heap.size w w':=by
  obtain⟨q,sb,qv,ov,xt,hy,hx⟩:=hU.yard
  obtain⟨tl,zs,hz⟩:=hy.z
  have hT:Calls prog 108 #[.pointer (some ⟨yb,0,none⟩)] w λe w'=>(∃v l,e=.returned v/\IsSl v/\l.map Prod.fst=s.jobs/\JobsOut w.heap.size (s.top n0) w' v l)/\Below w.heap.size w w':=by
    obtain⟨h1,h2⟩:=segs_eight hI hz
    refine(yJobs hz h1 h2 htop).mono ?_
    rintro e w1 ⟨⟨v',js,rfl,h1,h2,h3⟩,hb⟩
    obtain⟨a,k,rfl⟩:=row_shape3 h3.row
    exact⟨⟨_,js,rfl,⟨_,_,_,rfl⟩,hI.rises h1 (List.pairwise_map.2 h2),h3⟩,hb⟩
  have c9:w.cell? ⟨xb,9,none⟩=some (.pointer (some ⟨rb,0,none⟩)):=hU.box.cell (i:=9) rfl
  have r0:w.cell? ⟨rb,0,none⟩=some (.pointer (some ⟨yb,0,none⟩)):=hU.run.cell (i:=0) rfl
  clear hU hy hx hz hI htop
  have hTell:Calls prog 107 #[.pointer (some ⟨xb,0,none⟩),.func (.func 108) #[] #[]] w λe w'=>(∃v l,e=.returned (.tuple #[v,.int .i64 0])/\IsSl v/\l.map Prod.fst=s.jobs/\JobsOut w.heap.size (s.top n0) w' v l)/\Below w.heap.size w w':=by
    go_enter func107,ntmps107
    go_wp2_with fail
    go_fit hT
    rintro e w1 ⟨⟨v,l,rfl,⟨va,vn,vc,rfl⟩,h1⟩,hb⟩
    have H1:=hidd h1
    clear h1 hT
    go_wp2_with fail
    refine bodyPost_ret (by simp[results,results107,go_sem];rfl) rfl ⟨⟨_,l,by rfl,⟨_,_,_,rfl⟩,H1.out⟩,hb⟩
  clear hT
  go_enter func70,ntmps70
  go_wp2_with fail
  go_fit hTell
  rintro e w1 ⟨⟨v,l,rfl,⟨va,vn,vc,rfl⟩,h1⟩,hb⟩
  have H1:=hidd h1
  clear h1 hTell
  go_wp2_with fail
  refine bodyPost_ret (by simp[results,results70,go_sem];rfl) rfl ⟨⟨_,l,by rfl,H1.out⟩,hb⟩
def ProgMain (w w':World)(e:Ending)(c:Cfg)(g:ByteArray->ByteArray)(σ:Sg):Prop:=(σ.up=true/\∃v l,e=.returned (.tuple #[v,.int .i64 0])/\l.map Prod.fst=(Ts.all c g σ.rs).main/\TipsOut w.heap.size w' v l)\/(σ.up=false/\e=.returned (.tuple #[.slice none 0 0,.int .i64 8]))
theorem pMain (X:Nat->Prop)(xb:Nat)(c:Cfg)(σ:Sg)(n:Nat)(g:ByteArray->ByteArray)(w:World)(hP:ProgIs w X xb c σ n g)(hσ:σ.Ok c g)(hc:c.Ok)(hn:σ.rs.length<1048576):
    Calls prog 66 #[.pointer (some ⟨xb,0,none⟩)] w λe w'=>ProgMain w w' e c g σ/\Below w.heap.size w w':=by
  rcases hP with ⟨hu,hP⟩|⟨hu,hP⟩
  · obtain⟨mb,lv,Y,rb,yb,keep',hM,hU,_⟩:=hP.ex
    obtain⟨hI,hFw⟩:=hσ.fits.inv hc
    have f1:=hFw.ids
    have f2:=hI.cnt
    have f3:=hI.main
    refine(mMain_up Y xb mb n rb yb c _ _ _ _ lv w hU (by omega) (hσ.fits.mainOk hc)).mono ?_
    rintro e w' ⟨⟨v,l,rfl,h1⟩,hb⟩
    exact⟨.inl ⟨hu,v,l,rfl,h1⟩,hb⟩
  · obtain⟨mb,lv,hM,hD,_⟩:=hP.ex
    refine(mMain_down xb mb c _ lv w hD).mono ?_
    rintro _ w' ⟨rfl,rfl⟩
    exact⟨.inr ⟨hu,rfl⟩,Below.refl _ _⟩
def ProgTrain (w w':World)(e:Ending)(c:Cfg)(g:ByteArray->ByteArray)(σ:Sg):Prop:=(σ.up=true/\∃v l,e=.returned (.tuple #[v,.int .i64 0])/\l.map Prod.fst=(Ts.all c g σ.rs).segs.map tellS/\SegsOut w.heap.size w' v l)\/(σ.up=false/\e=.returned (.tuple #[.slice none 0 0,.int .i64 8]))
theorem pTrain (X:Nat->Prop)(xb:Nat)(c:Cfg)(σ:Sg)(n:Nat)(g:ByteArray->ByteArray)(w:World)(hP:ProgIs w X xb c σ n g)(hσ:σ.Ok c g)(hc:c.Ok):
    Calls prog 69 #[.pointer (some ⟨xb,0,none⟩)] w λe w'=>ProgTrain w w' e c g σ/\Below w.heap.size w w':=by
  rcases hP with ⟨hu,hP⟩|⟨hu,hP⟩
  · obtain⟨mb,lv,Y,rb,yb,keep',hM,hU,_⟩:=hP.ex
    obtain⟨hI,_⟩:=hσ.fits.inv hc
    refine(mTrain_up Y xb mb n rb yb c _ _ _ _ lv w hU hI).mono ?_
    rintro e w' ⟨⟨v,l,rfl,h1⟩,hb⟩
    exact⟨.inl ⟨hu,v,l,rfl,h1⟩,hb⟩
  · obtain⟨mb,lv,hM,hD,_⟩:=hP.ex
    refine(mTrain_down xb mb c _ lv w hD).mono ?_
    rintro _ w' ⟨rfl,rfl⟩
    exact⟨.inr ⟨hu,rfl⟩,Below.refl _ _⟩
def ProgJobs (w w':World)(e:Ending)(c:Cfg)(g:ByteArray->ByteArray)(n:Nat)(σ:Sg):Prop:=(σ.up=true/\∃v l,e=.returned (.tuple #[v,.int .i64 0])/\l.map Prod.fst=(Ts.all c g σ.rs).jobs/\JobsOut w.heap.size ((Ts.all c g σ.rs).top n) w' v l)\/(σ.up=false/\e=.returned (.tuple #[.slice none 0 0,.int .i64 8]))
theorem pJobs (X:Nat->Prop)(xb:Nat)(c:Cfg)(σ:Sg)(n:Nat)(g:ByteArray->ByteArray)(w:World)(hP:ProgIs w X xb c σ n g)(hσ:σ.Ok c g)(hc:c.Ok)(hn:σ.rs.length<1048576)(h0:n<1048576000):
    Calls prog 70 #[.pointer (some ⟨xb,0,none⟩)] w λe w'=>ProgJobs w w' e c g n σ/\Below w.heap.size w w':=by
  rcases hP with ⟨hu,hP⟩|⟨hu,hP⟩
  · obtain⟨mb,lv,Y,rb,yb,keep',hM,hU,_⟩:=hP.ex
    obtain⟨hI,hFw⟩:=hσ.fits.inv hc
    have f1:=hFw.ids
    refine(mJobs_up Y xb mb n rb yb c _ _ _ _ lv w hU hI (by unfold Ts.top;omega)).mono ?_
    rintro e w' ⟨⟨v,l,rfl,h1⟩,hb⟩
    exact⟨.inl ⟨hu,v,l,rfl,h1⟩,hb⟩
  · obtain⟨mb,lv,hM,hD,_⟩:=hP.ex
    refine(mJobs_down xb mb c _ lv w hD).mono ?_
    rintro _ w' ⟨rfl,rfl⟩
    exact⟨.inr ⟨hu,rfl⟩,Below.refl _ _⟩
def g0:ByteArray->ByteArray:=λ_=>⟨#[]⟩
theorem Grows.trans {w w1 w2:World}{U U1 U2:Nat->Prop}(h:Grows w w1 U U1)(h2:Grows w1 w2 U1 U2):Grows w w2 U U2:=
  ⟨h.only.trans h2.only h.sub,λk hk=>(h2.sub k hk).elim (h.sub k) λe=>.inr (Nat.le_trans h.only.size e)⟩
theorem Grows.from_below {w w1 w2:World}{U U2:Nat->Prop}(hb:Below w.heap.size w w1)(h2:Grows w1 w2 U U2):Grows w w2 U U2:=(Grows.of_below hb).trans h2
structure Pp (w:World)(U:Nat->Prop)(pb xb:Nat)(c:Cfg)(σ:Sg)(p:Pe):Prop where
  ex:∃X R V v,ProgIs w X xb c σ 0 g0/\PlIs w R V pb xb c p v/\(∀k,X k->¬R k/\¬V k)/\∀k,X k\/R k\/V k->U k
  lt:∀k,U k->k<w.heap.size
theorem Pp.kept {w w':World}{U:Nat->Prop}{pb xb:Nat}{c:Cfg}{σ:Sg}{p:Pe}(h:Pp w U pb xb c σ p)(hs:w.heap.size<=w'.heap.size)(hk:∀k,U k->w'.heap[k]? =w.heap[k]?):Pp w' U pb xb c σ p:=by
  obtain⟨X,R,V,v,hP,hL,hap,hU⟩:=h.ex
  exact⟨⟨X,R,V,v,hP.kept hs λk hX=>hk k (hU k (.inl hX)),hL.kept hs λk hR=>hk k (hU k (.inr hR)),hap,hU⟩,λk hk=>Nat.lt_of_lt_of_le (h.lt k hk) hs⟩
theorem Pp.later {w w':World}{U:Nat->Prop}{pb xb:Nat}{c:Cfg}{σ:Sg}{p:Pe}(h:Pp w U pb xb c σ p)(hb:Below w.heap.size w w'):Pp w' U pb xb c σ p:=h.kept hb.size λk hk=>hb.block k (h.lt k hk)
theorem Pp.only {w w':World}{U S:Nat->Prop}{pb xb:Nat}{c:Cfg}{σ:Sg}{p:Pe}(h:Pp w U pb xb c σ p)(hO:Only w w' S)(hn:∀k,U k->¬S k):Pp w' U pb xb c σ p:=h.kept hO.size λk hk=>hO.block k (h.lt k hk) (hn k hk)
theorem Pp.cell {w:World}{U:Nat->Prop}{pb xb:Nat}{c:Cfg}{σ:Sg}{p:Pe}(h:Pp w U pb xb c σ p):w.cell? ⟨pb,0,none⟩=some (.pointer (some ⟨xb,0,none⟩))/\w.cell? ⟨pb,1,none⟩=some (.int .i64 c.lanes)/\w.cell? ⟨pb,7,none⟩=some (.int .i64 c.queue)/\w.cell? ⟨pb,13,none⟩=some (.int .i64 p.now)/\w.frozen? ⟨pb,13,none⟩=false:=by
  obtain⟨X,R,V,v,hP,hL,hap,hU⟩:=h.ex
  exact⟨hL.bx.cell (i:=0) rfl,hL.bx.cell (i:=1) rfl,hL.bx.cell (i:=7) rfl,hL.bx.cell (i:=13) rfl,hL.bx.fr 13⟩
theorem Pp.call {w:World}{U:Nat->Prop}{pb xb:Nat}{c:Cfg}{σ:Sg}{p:Pe}{f:Nat}{args:Array Value}{a:Int×Sg}(h:Pp w U pb xb c σ p)(hc:∀X,ProgIs w X xb c σ 0 g0->(∀k,X k->U k)->Calls prog f args w λe w'=>PDid w w' e X xb c 0 g0 a):
    Calls prog f args w λe w'=>e=.returned (.int .i64 a.1)/\∃U',Pp w' U' pb xb c a.2 p/\Grows w w' U U':=by
  obtain⟨X,R,V,v,hP,hL,hap,hU⟩:=h.ex
  refine(hc X hP λk hk=>hU k (.inl hk)).mono ?_
  rintro e w' ⟨rfl,X',hP',hg⟩
  have hL':PlIs w' R V pb xb c p v:=hL.only hg.only λk hk hX=>hk.elim (hap k hX).1 (hap k hX).2
  refine⟨rfl,λk=>X' k\/R k\/V k,⟨⟨X',R,V,v,hP',hL',λk hk=>?_,λ_ h=>h⟩,λk hk=>?_⟩,⟨hg.only.mono λk hk=>hU k (.inl hk),λk hk=>?_⟩⟩
  · rcases hg.sub k hk with hX|hX
    · exact hap k hX
    · exact⟨λhR=>by have:=hL.lt k (.inl hR);omega,λhV=>by have:=hL.lt k (.inr hV);omega⟩
  · rcases hk with hk|hk
    · exact hP'.xl k hk
    · exact hL'.lt k hk
  · rcases hk with hk|hk
    · exact(hg.sub k hk).imp (λh=>hU k (.inl h)) λh=>h
    · exact .inl (hU k (.inr hk))
theorem Pp.ask {w:World}{U:Nat->Prop}{pb xb:Nat}{c:Cfg}{σ:Sg}{p:Pe}{f:Nat}{args:Array Value}{Q:Ending->World->Prop}(h:Pp w U pb xb c σ p)(hc:∀X,ProgIs w X xb c σ 0 g0->Calls prog f args w λe w'=>Q e w'/\Below w.heap.size w w'):
    Calls prog f args w λe w'=>Q e w'/\Below w.heap.size w w'/\Pp w' U pb xb c σ p:=by
  obtain⟨X,R,V,v,hP,hL,hap,hU⟩:=h.ex
  refine(hc X hP).mono ?_
  rintro e w' ⟨hq,hb⟩
  exact⟨hq,hb,h.later hb⟩
theorem Pp.play {w:World}{U:Nat->Prop}{pb xb:Nat}{c:Cfg}{σ:Sg}{p p':Pe}{f:Nat}{args:Array Value}{Q:Ending->Prop}(h:Pp w U pb xb c σ p)(hc:∀R V v,PlIs w R V pb xb c p v->Calls prog f args w λe w'=>Q e/\PlGo w w' R V pb xb c p'):
    Calls prog f args w λe w'=>Q e/\∃U',Pp w' U' pb xb c σ p'/\Grows w w' U U':=by
  obtain⟨X,R,V,v,hP,hL,hap,hU⟩:=h.ex
  refine(hc R V v hL).mono ?_
  rintro e w' ⟨hq,hg⟩
  obtain⟨R',V',v',hL',hR',hV'⟩:=hg.ex
  have hP':ProgIs w' X xb c σ 0 g0:=hP.only hg.only λk hX=>(hap k hX).2
  refine⟨hq,λk=>X k\/R' k\/V' k,⟨⟨X,R',V',v',hP',hL',λk hk=>⟨λhR=>?_,λhV=>?_⟩,λ_ h=>h⟩,λk hk=>?_⟩,⟨hg.only.mono λk hk=>hU k (.inr (.inr hk)),λk hk=>?_⟩⟩
  · rcases hR' k hR with hR|hR
    · exact(hap k hk).1 hR
    · have:=hP.xl k hk;omega
  · rcases hV' k hV with hV|hV
    · exact(hap k hk).2 hV
    · have:=hP.xl k hk;omega
  · rcases hk with hk|hk
    · exact hP'.xl k hk
    · exact hL'.lt k hk
  · rcases hk with hk|hk|hk
    · exact .inl (hU k (.inl hk))
    · exact(hR' k hk).imp (λh=>hU k (.inr (.inl h))) λh=>h
    · exact(hV' k hk).imp (λh=>hU k (.inr (.inr h))) λh=>h
theorem Pp.look {w:World}{U:Nat->Prop}{pb xb:Nat}{c:Cfg}{σ:Sg}{p:Pe}{f:Nat}{args:Array Value}{Q:Ending->World->Prop}(h:Pp w U pb xb c σ p)(hc:∀R V v,PlIs w R V pb xb c p v->Calls prog f args w λe w'=>Q e w'/\Below w.heap.size w w'):
    Calls prog f args w λe w'=>Q e w'/\Below w.heap.size w w'/\Pp w' U pb xb c σ p:=by
  obtain⟨X,R,V,v,hP,hL,hap,hU⟩:=h.ex
  refine(hc R V v hL).mono ?_
  rintro e w' ⟨hq,hb⟩
  exact⟨hq,hb,h.later hb⟩
theorem Sg.act_ok {σ:Sg}{r:Rc}(hu:σ.up=true)(hb:σ.br=false):σ.act 0 r=(0,{σ with rs:=σ.rs++[r]}):=by simp[Sg.act,Sg.write,hu,hb]
def Sg.ts (c:Cfg)(σ:Sg):Ts:=Ts.all c g0 σ.rs
structure Gd0 (c:Cfg)(σ:Sg)(p:Pe):Prop where
  ok:σ.Ok c g0
  up:σ.up=true
  br:σ.br=false
  ev:Ev p.jobs p.known (σ.ts c)
  pos:Pos c p (σ.ts c)
  now:p.now=(σ.ts c).now
  eok:∀k∈p.known,1<=k.es.length/\k.es.length<=4
  tl:p.tip.length<=4*p.landed.length
  jt:∀e∈p.jobs,e.tree.length<8796093022208/\e.ids.length<1099511627776
theorem nodup_len:∀(n:Nat) {l:List Nat},l.Nodup->(∀x∈l,x<n)->l.length<=n
  |0,[],_,_=>Nat.le_refl _
  |0,x::l,_,h=>absurd (h x List.mem_cons_self) (Nat.not_lt_zero x)
  |n+1,l,hd,h=>by
    have h1:=nodup_len n (hd.erase n) λx hx=>by
      have h2:=(List.Nodup.mem_erase_iff hd).1 hx
      have h3:=h x h2.2
      have h4:=h2.1
      omega
    have h3:=List.length_erase (a:=n) (l:=l)
    split at h3<;>omega
theorem Gd0.small {c:Cfg}{σ:Sg}{p:Pe}(h:Gd0 c σ p)(hc:c.Ok)(hn:σ.rs.length<1048576):p.known.length<1048576/\p.jobs.length<=4194304/\p.number<1048576/\p.landed.length<1048576/\p.tip.length<=4194304/\(p.known.map Kn.id).Nodup:=by
  obtain⟨hI,hF⟩:=h.ok.fits.inv hc
  have h1:=hF.ids
  have h2:=hF.begun
  have h3:=hI.cnt
  have h4:=hI.ack
  have hk:p.known.length=(σ.ts c).ids.length:=by rw[<-h.pos.ids,List.length_map]
  have hnum:=h.pos.num
  have hla:p.landed.length<=(σ.ts c).outs.length:=by
    rw[h.pos.landed,List.length_map]
    exact Nat.le_trans (List.length_filter_le _ _) (by rw[List.length_take];omega)
  have hj:p.jobs.length<=(σ.ts c).begun+1:=by
    have:=nodup_len ((σ.ts c).begun+1) h.ev.jn λx hx=>by
      obtain⟨e,he,rfl⟩:=List.mem_map.1 hx
      have:=h.ev.num e he
      omega
    rwa [List.length_map] at this
  have ht:=h.tl
  have e1:(σ.ts c).ids.length<=σ.rs.length:=h1
  have e2:(σ.ts c).begun<=4*σ.rs.length:=h2
  have e3:(σ.ts c).outs.length+(σ.ts c).queue.length+trainLen (σ.ts c).segs=(σ.ts c).ids.length:=h3
  have e4:(σ.ts c).acked<=(σ.ts c).outs.length:=h4
  refine⟨by omega,by omega,by omega,by omega,by omega,?_⟩
  rw[h.pos.ids];exact h.ev.nd
theorem ts_snoc {c:Cfg}{σ:Sg}{r:Rc}(hu:σ.up=true)(hb:σ.br=false):(σ.act 0 r).2.ts c=(σ.ts c).does c r:=by
  rw[Sg.act_ok hu hb]
  exact Ts.all_snoc c g0 σ.rs r
theorem Gd0.ack {c:Cfg}{σ:Sg}{p:Pe}(h:Gd0 c σ p)(hc:c.Ok)(hn:σ.rs.length<1048576)(ha:(σ.ts c).acked<(σ.ts c).outs.length):
    ∃i es,NextO c p ((σ.ts c).outs[(σ.ts c).acked]'ha) i es/\(1<=es.length/\es.length<=4)/\AckErr (σ.ts c) (((σ.ts c).acked:Int)+1) 0/\Gd0 c (σ.ack (((σ.ts c).acked:Int)+1) 0).2 (p.outc i ((σ.ts c).outs[(σ.ts c).acked]'ha))/\(σ.ack (((σ.ts c).acked:Int)+1) 0).1=0/\(σ.ack (((σ.ts c).acked:Int)+1) 0).2.ts c={σ.ts c with acked:=(σ.ts c).acked+1}/\(σ.ack (((σ.ts c).acked:Int)+1) 0).2.rs.length=σ.rs.length+1:=by
  obtain⟨i,es,hN,hP,hE⟩:=h.pos.next h.ev ha
  obtain⟨hI,hF⟩:=h.ok.fits.inv hc
  have h1:=hF.ids
  have h2:=hI.cnt
  have hA:AckErr (σ.ts c) (((σ.ts c).acked:Int)+1) 0:=.inl ⟨⟨ha,rfl⟩,rfl⟩
  have hcan:=(ack_can (c:=c) (g:=g0) hA (by show (Ts.all c g0 σ.rs).outs.length<_;omega) rfl).1
  have hts:(σ.ack (((σ.ts c).acked:Int)+1) 0).2.ts c={σ.ts c with acked:=(σ.ts c).acked+1}:=(ts_snoc h.up h.br).trans (does6 c _ _)
  obtain⟨k,hk,hkid,hk0,hkes⟩:=hN.at_
  have hlen:=h.eok k (List.mem_of_getElem? hk)
  rw[hkes] at hlen
  have hact:σ.ack (((σ.ts c).acked:Int)+1) 0=(0,{σ with rs:=σ.rs++[⟨6,0,(((σ.ts c).acked:Int)+1).toNat,false,[]⟩]}):=Sg.act_ok h.up h.br
  refine⟨i,es,hN,hlen,hA,⟨h.ok.act hc λ_=>hcan,by rw[hact];exact h.up,by rw[hact];exact h.br,by rw[hts];exact hE,by rw[hts];exact hP,by rw[hts];exact h.now,λk' hk'=>?_,?_,h.jt⟩,by rw[hact],hts,by rw[hact];simp⟩
  · rcases mem_modify hk' with hk'|⟨x,hx,rfl⟩
    · exact h.eok k' hk'
    · exact h.eok x hx
  · generalize (σ.ts c).outs[(σ.ts c).acked]'ha=o at *
    obtain⟨oid,ok⟩:=o
    by_cases e:ok=1
    · subst e
      rw[outc_land hk hkes]
      show (withL p.tip es).length<=4*(p.landed++[oid]).length
      have:=withL_len p.tip es
      have:=h.tl
      rw[List.length_append,List.length_singleton]
      omega
    · rw[outc_same e];exact h.tl
structure Dr (c:Cfg)(σ σ':Sg)(p p':Pe):Prop where
  ts:σ'.ts c={σ.ts c with acked:=(σ'.ts c).acked}
  len:σ'.rs.length+(σ.ts c).acked=σ.rs.length+(σ'.ts c).acked
  jobs:p'.jobs=p.jobs
  kn:p'.known.map (λk=>(k.id,k.es))=p.known.map λk=>(k.id,k.es)
theorem Dr.refl (c:Cfg)(σ:Sg)(p:Pe):Dr c σ σ p p:=⟨rfl,rfl,rfl,rfl⟩
theorem Dr.next {c:Cfg}{σ σ1 σ2:Sg}{p p1 p2:Pe}(h:Dr c σ σ1 p p1)(h1:σ2.ts c={σ1.ts c with acked:=(σ1.ts c).acked+1})(h2:σ2.rs.length=σ1.rs.length+1)(h3:p2.jobs=p1.jobs)(h4:p2.known.map (λk=>(k.id,k.es))=p1.known.map λk=>(k.id,k.es)):Dr c σ σ2 p p2:=by
  have ha:(σ2.ts c).acked=(σ1.ts c).acked+1:=by rw[h1]
  refine⟨?_,?_,h3.trans h.jobs,h4.trans h.kn⟩
  · rw[ha,h1,h.ts]
  · rw[ha,h2];have:=h.len;omega
theorem outc_kn (p:Pe)(i:Nat)(o:Nat×Nat):(p.outc i o).known.map (λk=>(k.id,k.es))=p.known.map λk=>(k.id,k.es):=by
  show (p.known.modify i λk=>k.put o.2).map _=_
  refine List.ext_getElem (by simp) λj h1 h2=>?_
  simp only[List.getElem_map,List.getElem_modify]
  split<;>rfl
theorem Dr.bound {c:Cfg}{σ σ':Sg}{p p':Pe}(h:Dr c σ σ' p p')(hn:σ.rs.length+((σ.ts c).outs.length-(σ.ts c).acked)<1048576)(ha:(σ'.ts c).acked<(σ'.ts c).outs.length):σ'.rs.length<1048576:=by
  have h1:=h.len
  have h2:(σ'.ts c).outs.length=(σ.ts c).outs.length:=by rw[h.ts]
  omega
theorem poll_some {c:Cfg}{σ:Sg}(hu:σ.up=true)(h:(σ.ts c).acked<(σ.ts c).outs.length):σ.poll c g0=(((σ.ts c).acked:Int)+1,(((σ.ts c).outs[(σ.ts c).acked]).1:Int),(((σ.ts c).outs[(σ.ts c).acked]).2:Int),0):=by
  unfold Sg.poll
  rw[if_neg (by rw[hu];exact Bool.noConfusion)]
  exact dif_pos h
theorem poll_none {c:Cfg}{σ:Sg}(hu:σ.up=true)(h:¬(σ.ts c).acked<(σ.ts c).outs.length):σ.poll c g0=(0,0,0,5):=by
  unfold Sg.poll
  rw[if_neg (by rw[hu];exact Bool.noConfusion)]
  exact dif_neg h
structure GrowsB (w w':World)(U U':Nat->Prop)(ob:Nat):Prop where
  only:Only w w' λq=>U q\/q=ob
  sub:∀k,U' k->U k\/w.heap.size<=k
theorem GrowsB.trans {w w1 w2:World}{U U1 U2:Nat->Prop}{ob:Nat}(h:GrowsB w w1 U U1 ob)(h2:Grows w1 w2 U1 U2):GrowsB w w2 U U2 ob:=
  ⟨h.only.trans h2.only λk hk=>(h.sub k hk).imp .inl λh=>h,λk hk=>(h2.sub k hk).elim (h.sub k) λe=>.inr (Nat.le_trans h.only.size e)⟩
theorem GrowsB.out {w w1 w2:World}{U U2:Nat->Prop}{ob:Nat}(hb:Below w.heap.size w w1)(ho:w.heap.size<=ob)(h:GrowsB w1 w2 U U2 ob):Grows w w2 U U2:=
  ⟨(Only.of_below (S:=U) hb).trans h.only λk hk=>hk.imp (λh=>h) λ(e:k=ob)=>by rw[e];exact ho,λk hk=>(h.sub k hk).imp (λh=>h) λe=>Nat.le_trans hb.size e⟩
def DrAt (w0 wr:World)(U:Nat->Prop)(pb xb ob:Nat)(c:Cfg)(σ:Sg)(p:Pe)(n:Nat)(ev:Value):Prop:=
  ∃σ' p' U' a b k e,Pp wr U' pb xb c σ' p'/\GrowsB w0 wr U U' ob/\Gd0 c σ' p'/\Dr c σ σ' p p'/\Bx wr ob 99 #[.int .i64 a,.int .i64 b,.int .i64 k]/\ev=.int .i64 e/\σ'.poll c g0=(a,b,k,e)/\n=(σ'.ts c).outs.length-(σ'.ts c).acked
theorem dr_round {c:Cfg}{σ σ1:Sg}{p p1:Pe}{U1:Nat->Prop}{pb xb:Nat}(hG:Gd0 c σ1 p1)(hc:c.Ok)(hn:σ.rs.length+((σ.ts c).outs.length-(σ.ts c).acked)<1048576)(hD:Dr c σ σ1 p p1)(ha:(σ1.ts c).acked<(σ1.ts c).outs.length):
    ∃(A O1 O2:Int) (σ2:Sg) (p2:Pe),σ1.poll c g0=(A,O1,O2,0)/\
      (∀W,Pp W U1 pb xb c σ1 p1->Calls prog 77 #[.pointer (some ⟨xb,0,none⟩)] W λe W'=>e=.returned (.tuple #[.agg #[.int .i64 A,.int .i64 O1,.int .i64 O2],.int .i64 0])/\Below W.heap.size W W'/\Pp W' U1 pb xb c σ1 p1)/\
      (∀W,Pp W U1 pb xb c σ1 p1->Calls prog 78 #[.pointer (some ⟨pb,0,none⟩),.agg #[.int .i64 A,.int .i64 O1,.int .i64 O2]] W λe W'=>e=.returned (.bool true)/\∃U',Pp W' U' pb xb c σ1 p2/\Grows W W' U1 U')/\
      (∀W U3,Pp W U3 pb xb c σ1 p2->Calls prog 79 #[.pointer (some ⟨xb,0,none⟩),.int .i64 A] W λe W'=>e=.returned (.int .i64 0)/\∃U',Pp W' U' pb xb c σ2 p2/\Grows W W' U3 U')/\
      Gd0 c σ2 p2/\Dr c σ σ2 p p2/\(σ2.ts c).outs.length-(σ2.ts c).acked<(σ1.ts c).outs.length-(σ1.ts c).acked:=by
  have hlen:σ1.rs.length<1048576:=hD.bound hn ha
  obtain⟨i,es,hN,hes,hA,hG2,hz,hts,hl2⟩:=hG.ack hc hlen ha
  obtain⟨s1,s2,s3,s4,s5,s6⟩:=hG.small hc hlen
  have hnum:(p1.number:Int)=((σ1.ts c).acked:Int):=congrArg Nat.cast hG.pos.num
  have hps:=poll_some hG.up ha
  have hkn:=outc_kn p1 i ((σ1.ts c).outs[(σ1.ts c).acked])
  generalize (σ1.ts c).outs[(σ1.ts c).acked]=o at hN hG2 hps hkn
  have hD2:Dr c σ (σ1.ack (((σ1.ts c).acked:Int)+1) 0).2 p (p1.outc i o):=hD.next hts hl2 rfl hkn
  have hm:((σ1.ack (((σ1.ts c).acked:Int)+1) 0).2.ts c).outs.length-((σ1.ack (((σ1.ts c).acked:Int)+1) 0).2.ts c).acked<(σ1.ts c).outs.length-(σ1.ts c).acked:=by
    rw[hts]
    show (σ1.ts c).outs.length-((σ1.ts c).acked+1)<_
    omega
  have hC:∀X W,ProgIs W X xb c σ1 0 g0->Calls prog 79 #[.pointer (some ⟨xb,0,none⟩),.int .i64 (((σ1.ts c).acked:Int)+1)] W λe w'=>PDid W w' e X xb c 0 g0 (σ1.ack (((σ1.ts c).acked:Int)+1) 0):=λX W hX=>pAck X xb c σ1 0 g0 _ 0 W hX hG.ok hc hlen hA
  obtain⟨k,σ2,hk⟩:∃k σ2,σ1.ack (((σ1.ts c).acked:Int)+1) 0=(k,σ2):=⟨_,_,rfl⟩
  rw[hk] at hG2 hD2 hm hC hz
  have hz:k=0:=hz
  subst hz
  have hP:∀W R V v,PlIs W R V pb xb c p1 v->Calls prog 78 #[.pointer (some ⟨pb,0,none⟩),.agg #[.int .i64 (((σ1.ts c).acked:Int)+1),.int .i64 o.1,.int .i64 o.2]] W λe w'=>e=.returned (.bool true)/\PlGo W w' R V pb xb c (p1.outc i o):=λW R V v hL=>by
    have:=pl_outcome R V pb xb c p1 v o i es W hL hN s6 (by omega) (by omega) (by omega) hG.jt (by omega) (by omega) (by omega) (by omega)
    rw[hnum] at this
    exact this
  have hQ:∀X W,ProgIs W X xb c σ1 0 g0->Calls prog 77 #[.pointer (some ⟨xb,0,none⟩)] W λe w'=>e=.returned (pollV (σ1.poll c g0))/\Below W.heap.size W w':=λX W hX=>pPoll X xb c σ1 0 g0 W hX hG.ok hc
  rw[hps] at hQ
  generalize ((σ1.ts c).acked:Int)+1=A at hP hC hps hQ
  exact⟨A,o.1,o.2,σ2,p1.outc i o,hps,λW hW=>hW.ask λX hX=>hQ X W hX,λW hW=>hW.play λR V v hL=>hP W R V v hL,λW U3 hW=>hW.call λX hX _=>hC X W hX,hG2,hD2,hm⟩
theorem pl_drain (U:Nat->Prop)(pb xb:Nat)(c:Cfg)(σ:Sg)(p:Pe)(w:World)(h:Pp w U pb xb c σ p)(hG:Gd0 c σ p)(hc:c.Ok)(hn:σ.rs.length+((σ.ts c).outs.length-(σ.ts c).acked)<1048576):
    Calls prog 33 #[.pointer (some ⟨pb,0,none⟩)] w λe w'=>e=.returned (.bool true)/\∃σ' p' U',Pp w' U' pb xb c σ' p'/\Grows w w' U U'/\Gd0 c σ' p'/\Dr c σ σ' p p'/\(σ'.ts c).acked=(σ'.ts c).outs.length:=by
  have b0:=h.cell.1
  have hpoll:=h.ask (λX hX=>pPoll X xb c σ 0 g0 w hX hG.ok hc)
  have HG:Hid (Gd0 c σ p):=hG
  clear hG
  obtain⟨a,b,k,e,hpe⟩:∃a b k e,σ.poll c g0=(a,b,k,e):=⟨_,_,_,_,rfl⟩
  rw[hpe] at hpoll
  have Hpe:Hid (σ.poll c g0=(a,b,k,e)):=hpe
  clear hpe
  go_enter func33,ntmps33
  go_wp2_with fail
  refine hpoll.mono ?_
  rintro _ w1 ⟨rfl,hb1,hp1⟩
  unfold pollV
  clear hpoll b0
  go_wp2_with fail
  have hob:∀q,U q->q≠w1.heap.size:=λq hq=>Nat.ne_of_lt (hp1.lt q hq)
  have H0:Hid (DrAt (w1.alloc (.cells #[.int .i64 a,.int .i64 b,.int .i64 k] 99)) (w1.alloc (.cells #[.int .i64 a,.int .i64 b,.int .i64 k] 99)) U pb xb w1.heap.size c σ p ((σ.ts c).outs.length-(σ.ts c).acked) (.int .i64 e)):=⟨σ,p,U,a,b,k,e,hp1.later (below_new _ _),⟨Only.refl _ _,λ_ h=>.inl h⟩,HG.out,Dr.refl _ _ _,Bx.new _ _ _,rfl,Hpe.out,rfl⟩
  have Hfin:Hid (Below w.heap.size w (w1.alloc (.cells #[.int .i64 a,.int .i64 b,.int .i64 k] 99))):=hb1.trans ((below_new _ _).mono hb1.size)
  have Hob:Hid (∀q,U q->q≠w1.heap.size):=hob
  have Hwo:Hid (w.heap.size<=w1.heap.size):=hb1.size
  have Hol:Hid (w1.heap.size<(w1.alloc (.cells #[.int .i64 a,.int .i64 b,.int .i64 k] 99)).heap.size):=by show _<_;simp
  clear hob hb1 hp1 HG Hpe h
  generalize w1.alloc (.cells #[.int .i64 a,.int .i64 b,.int .i64 k] 99)=w2 at *
  generalize w1.heap.size=ob at *
  go_loopg [4] ((σ.ts c).outs.length-(σ.ts c).acked) (λn ev wr=>Hid (DrAt w2 wr U pb xb ob c σ p n ev))
  case atStart=>exact H0
  case round=>
    obtain⟨σ1,p1,U1,a1,b1,k1,e1,hp,hg,hG,hD,hB,rfl,hpl,hgn⟩:=hrel.out
    clear H0 hrel
    have hno:∀q,U1 q->q≠ob:=λq hq=>(hg.sub q hq).elim (Hob.out q) λe=>by have:=Hol.out;omega
    by_cases ha:(σ1.ts c).acked<(σ1.ts c).outs.length
    · obtain⟨A,O1,O2,σ2,p2,hpoll,hQ,hO,hA,hG2,hD2,hm⟩:=dr_round (U1:=U1) (pb:=pb) (xb:=xb) hG hc hn hD ha
      rw[hpl,Prod.mk.injEq,Prod.mk.injEq,Prod.mk.injEq] at hpoll
      obtain⟨rfl,rfl,rfl,rfl⟩:=hpoll
      have HQ:=hd' hQ
      have HP:=hd' hO
      have HA:=hd' hA
      have Hgn:Hid ((σ2.ts c).outs.length-(σ2.ts c).acked<gk):=by show _<_;rw[hgn];exact hm
      have Hg:Hid (GrowsB w2 wr U U1 ob):=hg
      have HG2:Hid (Gd0 c σ2 p2):=hG2
      have HD2:Hid (Dr c σ σ2 p p2):=hD2
      have HB:Hid (Bx wr ob 99 #[.int .i64 a1,.int .i64 b1,.int .i64 k1]):=hB
      have Hno:Hid (∀q,U1 q->q≠ob):=hno
      have Hp:Hid (Pp wr U1 pb xb c σ1 p1):=hp
      have b0:=hp.cell.1
      clear hg hG hD hB hno hp ha hpl hG2 hD2 hgn hQ hO hA hm hn
      go_wp2_with fail
      refine(HQ.out wr Hp.out).mono ?_
      rintro _ w3 ⟨rfl,hb3,hp3⟩
      have hB3:=HB.out.later hb3
      have hp4:=hp3.later (below_new w3 (.cells #[.int .i64 a1,.int .i64 b1,.int .i64 k1] 99))
      have hB4:=hB3.later (below_new w3 (.cells #[.int .i64 a1,.int .i64 b1,.int .i64 k1] 99))
      have o0:=hB4.c 0 (.int .i64 a1)
      have o1:=hB4.c 1 (.int .i64 b1)
      have o2:=hB4.c 2 (.int .i64 k1)
      clear b0
      go_wp2_with fail
      refine(HP.out _ hp4).mono ?_
      rintro _ w5 ⟨rfl,U5,hp5,hg5⟩
      have hlt3:∀q,U1 q->q<w3.heap.size:=hp3.lt
      have hsz4:w3.heap.size<(w3.alloc (.cells #[.int .i64 a1,.int .i64 b1,.int .i64 k1] 99)).heap.size:=by simp
      have hB5:=hB4.kept hg5.only λhU=>Hno.out ob hU rfl
      have hA5:=(Bx.new w3 #[.int .i64 a1,.int .i64 b1,.int .i64 k1] 99).kept hg5.only λhU=>Nat.lt_irrefl _ (hlt3 _ hU)
      have Hob5:Hid (∀q,U5 q->q≠ob/\q≠w3.heap.size):=λq hq=>by
        rcases hg5.sub q hq with h|h
        · exact⟨Hno.out q h,Nat.ne_of_lt (hlt3 q h)⟩
        · have:=hB3.lt
          exact⟨by omega,by omega⟩
      have HG5:Hid (Grows wr w5 U1 U5):=Grows.from_below hb3 (Grows.from_below (below_new _ _) hg5)
      have hca:=HA.out w5.drew U5 (hp5.later (Drew.one _ 1).below)
      have d0:=hp5.cell.1
      have e0:=hB5.c 0 (.int .i64 a1)
      have HB5:Hid (Bx w5 ob 99 #[.int .i64 a1,.int .i64 b1,.int .i64 k1]):=hB5
      have HA5:Hid (Bx w5 w3.heap.size 99 #[.int .i64 a1,.int .i64 b1,.int .i64 k1]):=hA5
      clear hB5 hA5 hg5 hp5 hp4 hB4 hB3 hb3 hp3 o0 o1 o2 HP HQ HA HB Hp hlt3 hsz4 Hno
      generalize w3.heap.size=ab at *
      go_wp2_with fail
      go_cut [8] from 17 to 59 (λt wz=>t=.int .i64 0/\∃U6,Pp wz U6 pb xb c σ2 p2/\Grows w5 wz U5 U6)
      case first=>
        go_region_held_law (λw'=>w'.cell? ⟨pb,0,none⟩=some (.pointer (some ⟨xb,0,none⟩))/\w'.cell? ⟨ob,0,none⟩=some (.int .i64 a1)) (go_keep) ((go_at_call 79;refine hca.mono ?_;rintro _ w6 ⟨rfl,U6,hp6,hg6⟩;have f0:=hp6.cell.1;have f1:=(HB5.out.kept (Only.drew hg6.only) λhU=>(Hob5.out ob hU).1 rfl).c 0 (.int .i64 a1);have H6:Hid (∃U6,Pp w6 U6 pb xb c σ2 p2/\Grows w5 w6 U5 U6):=⟨U6,hp6,Grows.from_below (Drew.one _ 1).below hg6⟩;clear hp6 hg6))
        all_goals
          go_wp2_with fail
          go_meet
          case rel=>exact⟨rfl,H6.out⟩
      case rest=>
        obtain⟨rfl,U6,hp6,hg6⟩:=hcut
        rename World=>w6
        have hB6:=HB5.out.kept hg6.only λhU=>(Hob5.out ob hU).1 rfl
        have hA6:=HA5.out.kept hg6.only λhU=>(Hob5.out ab hU).2 rfl
        obtain⟨a2,b2,k2,e2,hpe2⟩:∃a b k e,σ2.poll c g0=(a,b,k,e):=⟨_,_,_,_,rfl⟩
        have hq:=hp6.ask λX hX=>pPoll X xb c σ2 0 g0 w6 hX HG2.out.ok hc
        rw[hpe2] at hq
        have Hpe2:Hid (σ2.poll c g0=(a2,b2,k2,e2)):=hpe2
        have f0:=hp6.cell.1
        have o0:=hB6.c 0 (.int .i64 a1)
        have o1:=hB6.c 1 (.int .i64 b1)
        have o2:=hB6.c 2 (.int .i64 k1)
        have y0:=hA6.c 0 (.int .i64 a1)
        have y1:=hA6.c 1 (.int .i64 b1)
        have y2:=hA6.c 2 (.int .i64 k1)
        have HB6:Hid (Bx w6 ob 99 #[.int .i64 a1,.int .i64 b1,.int .i64 k1]):=hB6
        have Hob6:Hid (∀q,U6 q->q≠ob):=λq hq=>(hg6.sub q hq).elim (λh=>(Hob5.out q h).1) λh=>by have:=HB5.out.lt;omega
        have HGr:Hid (GrowsB w2 w6 U U6 ob):=Hg.out.trans (HG5.out.trans hg6)
        clear hca d0 e0 hB6 hA6 hp6 hg6 Hob5 HB5 HA5 HG5 Hg hpe2
        go_wp2_with fail
        refine hq.mono ?_
        rintro _ w7 ⟨rfl,hb7,hp7⟩
        unfold pollV
        have hB7:=HB6.out.later hb7
        have n0:=hB7.c 0 (.int .i64 a1)
        have n1:=hB7.c 1 (.int .i64 b1)
        have n2:=hB7.c 2 (.int .i64 k1)
        have m0:=hB7.fr 0
        have m1:=hB7.fr 1
        have m2:=hB7.fr 2
        have hB8:=((hB7.set 0 (.int .i64 a2)).set 1 (.int .i64 b2)).set 2 (.int .i64 k2)
        have hO8:Only w7 (((w7.setCell ⟨ob,0,none⟩ (.int .i64 a2)).setCell ⟨ob,1,none⟩ (.int .i64 b2)).setCell ⟨ob,2,none⟩ (.int .i64 k2)) (λq=>q=ob):=Only.set (Only.set (Only.set (Only.refl _ _) (.inl rfl)) (.inl rfl)) (.inl rfl)
        have HF:Hid (DrAt w2 (((w7.setCell ⟨ob,0,none⟩ (.int .i64 a2)).setCell ⟨ob,1,none⟩ (.int .i64 b2)).setCell ⟨ob,2,none⟩ (.int .i64 k2)) U pb xb ob c σ p ((σ2.ts c).outs.length-(σ2.ts c).acked) (.int .i64 e2)):=⟨σ2,p2,U6,a2,b2,k2,e2,hp7.only hO8 λq hq e=>Hob6.out q hq e,⟨(HGr.out.only.trans (Only.of_below (S:=λq=>U q\/q=ob) hb7) λ_ h=>.inl h).trans hO8 λq e=>.inl (.inr e),HGr.out.sub⟩,HG2.out,HD2.out,hB8,rfl,Hpe2.out,rfl⟩
        clear hq f0 o0 o1 o2 y0 y1 y2 HB6 hB7 hB8 hO8 hb7 hp7
        go_wp2_with fail
        go_roundg ((σ2.ts c).outs.length-(σ2.ts c).acked)
        case rel=>exact HF
        case measure=>exact Hgn.out
    · have hpoll:=poll_none hG.up ha
      rw[hpl,Prod.mk.injEq,Prod.mk.injEq,Prod.mk.injEq] at hpoll
      obtain⟨rfl,rfl,rfl,rfl⟩:=hpoll
      have HF:Hid (∃σ' p' U',Pp wr U' pb xb c σ' p'/\Grows w wr U U'/\Gd0 c σ' p'/\Dr c σ σ' p p'/\(σ'.ts c).acked=(σ'.ts c).outs.length):=⟨σ1,p1,U1,hp,GrowsB.out Hfin.out Hwo.out hg,hG,hD,by have:(σ1.ts c).acked<=(σ1.ts c).outs.length:=(hG.ok.fits.inv hc).1.ack;omega⟩
      clear hp hg hG hD hB hno ha hpl hn
      go_wp2
      go_ret
      exact⟨rfl,HF.out⟩
end Go.Proofs.YtgamgomepdfgdaaGreat
