import Derived.Test.YtgamgomepdfgdaaGreatFM34
set_option maxRecDepth 100000
set_option maxHeartbeats 8000000
namespace Go.Proofs.YtgamgomepdfgdaaGreat
open Go.RowKit Go.Proofs.Tryz
def JobFor (l:List Sm)(y:Jbt):Prop:=∃x∈l,∃j,x.job=some j/\y.1=j.num/\y.2.1=j.til/\y.2.2.2=j.files/\∃pre,y.2.2.1=pre++x.l.map Prod.fst
theorem jobsOf_for:∀{l:List Sm} {acc:List Nat} {y:Jbt},y∈jobsOf l acc->JobFor l y
  |x::l,acc,y,h=>by
    unfold jobsOf at h
    rcases List.mem_append.1 h with h|h
    · cases e:x.job with
      |none=>rw[e] at h;simp at h
      |some j=>
        rw[e] at h
        obtain rfl:=List.mem_singleton.1 h
        exact⟨x,List.mem_cons_self,j,e,rfl,rfl,rfl,acc,rfl⟩
    · obtain⟨x',hx',h'⟩:=jobsOf_for h
      exact⟨x',List.mem_cons_of_mem _ hx',h'⟩
theorem jobsOf_has:∀{l:List Sm} {acc:List Nat} {x:Sm} {j:Jb},x∈l->x.job=some j->∃y∈jobsOf l acc,y.1=j.num
  |z::l,acc,x,j,hx,hj=>by
    unfold jobsOf
    rcases List.mem_cons.1 hx with rfl|hx
    · rw[hj]
      exact⟨_,List.mem_append_left _ (List.mem_singleton.2 rfl),rfl⟩
    · obtain⟨y,hy,e⟩:=jobsOf_has (acc:=acc++z.l.map Prod.fst) hx hj
      exact⟨y,List.mem_append_right _ hy,e⟩
theorem jobsOf_ids:∀{l:List Sm} {acc:List Nat} {y:Jbt},y∈jobsOf l acc->y.2.2.1.length<=acc.length+trainLen l
  |x::l,acc,y,h=>by
    unfold jobsOf at h
    rw[trainLen_cons]
    rcases List.mem_append.1 h with h|h
    · cases e:x.job with
      |none=>rw[e] at h;simp at h
      |some j=>
        rw[e] at h
        obtain rfl:=List.mem_singleton.1 h
        show (acc++x.l.map Prod.fst).length<=_
        rw[List.length_append,List.length_map];omega
    · have:=jobsOf_ids h
      rw[List.length_append,List.length_map] at this
      omega
theorem Ts.Inv.jobs_perm {c:Cfg}{s:Ts}(h:s.Inv c):s.jobs.Perm (jobsOf s.segs []):=by
  refine rkG_perm λy hy=>?_
  obtain⟨x,hx,j,hj,e,_⟩:=jobsOf_for hy
  have:=((h.sm x hx).job j hj).2.2.2.1
  show y.1<_
  omega
theorem Ts.Inv.job_for {c:Cfg}{s:Ts}(h:s.Inv c){y:Jbt}(hy:y∈s.jobs):JobFor s.segs y:=jobsOf_for (h.jobs_perm.mem_iff.1 hy)
theorem Ts.Inv.job_has {c:Cfg}{s:Ts}(h:s.Inv c){x:Sm}{j:Jb}(hx:x∈s.segs)(hj:x.job=some j):∃y∈s.jobs,y.1=j.num:=by
  obtain⟨y,hy,e⟩:=jobsOf_has (acc:=[]) hx hj
  exact⟨y,h.jobs_perm.mem_iff.2 hy,e⟩
theorem Ts.Inv.job_len {c:Cfg}{s:Ts}(h:s.Inv c){y:Jbt}(hy:y∈s.jobs):y.2.2.1.length<=8:=by
  have h1:=jobsOf_ids (h.jobs_perm.mem_iff.1 hy)
  have h2:=h.tr
  simp only[List.length_nil] at h1
  omega
theorem jobsOf_count:∀(l:List Sm) (acc:List Nat),(jobsOf l acc).length<=l.length
  |[],_=>by unfold jobsOf;exact Nat.le_refl _
  |x::l,acc=>by
    unfold jobsOf
    have:=jobsOf_count l (acc++x.l.map Prod.fst)
    rw[List.length_append,List.length_cons]
    cases x.job with
    |none=>simp;omega
    |some j=>simp;omega
theorem segs_train:∀(l:List Sm),(∀x∈l,x.l≠[])->l.length<=trainLen l
  |[],_=>Nat.zero_le _
  |x::l,h=>by
    have h1:=segs_train l λy hy=>h y (List.mem_cons_of_mem _ hy)
    have h2:=List.length_pos_iff.2 (h x List.mem_cons_self)
    rw[trainLen_cons,List.length_cons];omega
theorem Ts.Inv.jobs_few {c:Cfg}{s:Ts}(h:s.Inv c):s.jobs.length<=8:=by
  have h1:=h.jobs_perm.length_eq
  have h2:=jobsOf_count s.segs []
  have h3:=segs_train s.segs λx hx=>(h.sm x hx).ne
  have h4:=h.tr
  omega
structure EntryOf (y:Jbt)(e:Eo):Prop where
  num:e.num=y.1
  til:e.til=y.2.1
  ids:e.ids=y.2.2.1
  tree:Lists e.tree y.2.2.2
  how:e.how=0
theorem Gd0.seen {c:Cfg}{σ:Sg}{p:Pe}{new:List Eo}(h:Gd0 c σ p)(hc:c.Ok)(hn:∀e∈new,∃y∈(σ.ts c).jobs,EntryOf y e)(hl:∀e∈new,e.tree.length<8796093022208)(hall:∀y∈(σ.ts c).jobs,∃e∈p.jobs++new,e.num=y.1)(hnd:((p.jobs++new).map Eo.num).Nodup)(hd:(σ.ts c).acked=(σ.ts c).outs.length):
    Gd0 c σ {p with jobs:=p.jobs++new}/\NotedJ (p.jobs++new) (σ.ts c).segs:=by
  have hI:(σ.ts c).Inv c:=(h.ok.fits.inv hc).1
  refine⟨⟨h.ok,h.up,h.br,h.ev.seen (λe he x hx j hj en=>?_) (λe he=>?_) hnd,⟨h.pos.ids,h.pos.num,h.pos.kinds,h.pos.landed,?_⟩,h.now,h.eok,h.tl,λe he=>?_⟩,λx hx j hj=>?_⟩
  · obtain⟨y,hy,hE⟩:=hn e he
    obtain⟨x',hx',j',hj',e1,e2,e3,pre,e4⟩:=hI.job_for hy
    obtain rfl:=job_inj hI.jobs hx' hx hj' hj (by rw[<-e1,<-hE.num,en])
    rw[hj] at hj'
    cases hj'
    refine⟨hE.how,by rw[<-e3];exact hE.tree,?_⟩
    rw[hE.ids,e4]
    unfold Sm.last
    have hne:x'.l.map Prod.fst≠[]:=λe=>(hI.sm x' hx).ne (List.map_eq_nil_iff.1 e)
    rw[List.getLast?_append]
    cases hgl:(x'.l.map Prod.fst).getLast? with
    |none=>exact absurd (List.getLast?_eq_none_iff.1 hgl) hne
    |some _=>rfl
  · obtain⟨y,hy,hE⟩:=hn e he
    obtain⟨x',hx',j',hj',e1,_⟩:=hI.job_for hy
    have:=((hI.sm x' hx').job j' hj').2.2.2.1
    rw[hE.num,e1];exact this
  · obtain⟨hl,_⟩:=h.pos.done h.ev hd
    exact⟨_,hl,by rw[hd,List.drop_length];rfl⟩
  · rcases List.mem_append.1 he with he|he
    · exact h.jt e he
    · obtain⟨y,hy,hE⟩:=hn e he
      have:=hI.job_len hy
      exact⟨hl e he,by rw[hE.ids];omega⟩
  · obtain⟨y,hy,e1⟩:=hI.job_has hx hj
    obtain⟨e,he,e2⟩:=hall y hy
    exact⟨e,he,e2.trans e1⟩
theorem info_eo:(prog.info? 126).map (λi=>(i.zero,i.size,i.bytes))=some (some (.agg #[.int .i64 0,.int .i64 0,.slice none 0 0,.slice none 0 0,.int .i64 0,.int .i64 0]),6,80):=by kernel_rfl
def thereB (l:List Eo)(n:Nat):Bool:=l.any λz=>z.num==n
theorem thereB_snoc {l:List Eo}{n m:Nat}(h:m<l.length):thereB (l.take (m+1)) n=(thereB (l.take m) n||l[m].num==n):=by
  unfold thereB
  rw[List.take_succ_eq_append_getElem h,List.any_append];simp
theorem thereB_yes {l:List Eo}{n:Nat}(h:thereB l n=true):∃e∈l,e.num=n:=by
  unfold thereB at h
  obtain⟨e,he,h⟩:=List.any_eq_true.1 h
  exact⟨e,he,by simpa using h⟩
theorem thereB_no {l:List Eo}{n:Nat}(h:thereB l n=false):∀e∈l,e.num≠n:=λe he=>by
  unfold thereB at h
  simpa using List.any_eq_false.1 h e he
def SeenAt (w w1 wr:World)(R V:Nat->Prop)(pb xb:Nat)(c:Cfg)(p:Pe)(js:List Jv)(k:Nat):Prop:=
  ∃R' V' v' new,PlIs wr R' V' pb xb c {p with jobs:=p.jobs++new} v'/\(∀q,R' q->R q\/w.heap.size<=q)/\(∀q,V' q->V q\/w1.heap.size<=q)/\Only w1 wr V/\(∀e∈new,(∃y∈js,EntryOf y.1 e)/\e.tree.length<8796093022208)/\(∀y∈js.take k,∃e∈p.jobs++new,e.num=y.1.1)/\((p.jobs++new).map Eo.num).Nodup/\new.length<=k
theorem seen_next {w w1 wr w':World}{R V R' V':Nat->Prop}{pb xb:Nat}{c:Cfg}{p:Pe}{js:List Jv}{k:Nat}{v':Pv}{new:List Eo}{fl:List Fl}{jv:Value}{o:Obj}(hk:k<js.length)(hL:PlIs wr R' V' pb xb c {p with jobs:=p.jobs++new} v')(hR:∀q,R' q->R q\/w.heap.size<=q)(hV:∀q,V' q->V q\/w1.heap.size<=q)(hO:Only w1 wr V)(hVl:∀q,V q->q<w.heap.size)(hn:∀e∈new,(∃y∈js,EntryOf y.1 e)/\e.tree.length<8796093022208)(ha:∀y∈js.take k,∃e∈p.jobs++new,e.num=y.1.1)(hd:((p.jobs++new).map Eo.num).Nodup)(hl:new.length<=k)(hno:∀e∈p.jobs++new,e.num≠js[k].1.1)(hi:wr.ownsRow w.heap.size 3 1 js[k].2.1 js[k].1.2.2.1.length (js[k].1.2.2.1.map cI))(hil:∀g,js[k].2.1.ownBlock=some g->g<w1.heap.size)(ht:wr.ownsRow w.heap.size 80 2 js[k].2.2 fl.length (fl.flatMap cF))(htl:∀g,js[k].2.2.ownBlock=some g->g<w1.heap.size)(hfl:Told fl js[k].1.2.2.2)(hft:fl.length<8796093022208)(hS:Sl w' 126 6 jv (v'.es.length+1) (v'.es.flatMap cEo++[.int .i64 js[k].1.1,.int .i64 js[k].1.2.1,js[k].2.1,js[k].2.2,.int .i64 0,.int .i64 p.landed.length]))(hM:Moved (wr.alloc o).drew w' v'.jv jv v'.es.length 1):
    (∃u,w'.cell? ⟨pb,9,none⟩=some u/\w'.frozen? ⟨pb,9,none⟩=false)/\SeenAt w w1 (w'.setCell ⟨pb,9,none⟩ jv) R V pb xb c p js (k+1):=by
  have hb:Below wr.heap.size wr (wr.alloc o).drew:=(below_new wr o).trans ((Drew.one _ 1).below.mono (by simp))
  have h0:=hL.later hb
  have notV:∀g,w.heap.size<=g->g<w1.heap.size->¬V' g:=λg h1 h2 h3=>by
    rcases hV g h3 with h|h
    · have:=hVl g h;omega
    · omega
  have hi2:=(Sl.of_row hi).later hb
  have ht2:=(FilesAt.of_row ht).later hb
  obtain⟨h1,h2,h3⟩:=h0.addJob (e0:=⟨js[k].1.1,js[k].1.2.1,js[k].1.2.2.1,fl,0,p.landed.length⟩) (iv:=js[k].2.1) (tv:=js[k].2.2) hS hM hi2 (λg e=>notV g (World.ownsRow.lt hi g e).1 (hil g e)) ht2 (λg e=>⟨notV g (World.ownsRow.lt ht g e).1 (htl g e),Nat.lt_of_lt_of_le (World.ownsRow.lt ht g e).2 hb.size⟩)
  obtain⟨row,hg,hr,_⟩:=hM.row
  have hB:Bx w' pb 58 (plC xb c v'.kv v'.jv v'.tv v'.lv p.number p.now):=h0.bx.grown hg λe=>h0.er.ne h0.bx (by decide) (hr pb e.symm)
  refine⟨⟨_,hB.c 9 v'.jv,hB.fr 9⟩,λq=>R' q\/js[k].2.1.ownBlock=some q\/js[k].2.2.ownBlock=some q,λq=>V' q\/jv.ownBlock=some q,{v' with jv:=jv,es:=v'.es++[(⟨js[k].1.1,js[k].1.2.1,js[k].1.2.2.1,fl,0,p.landed.length⟩,js[k].2.1,js[k].2.2)]},new++[⟨js[k].1.1,js[k].1.2.1,js[k].1.2.2.1,fl,0,p.landed.length⟩],?_,λq hq=>?_,λq hq=>?_,?_,λe he=>?_,λy hy=>?_,?_,?_⟩
  · rw[<-List.append_assoc];exact h1
  · rcases hq with hq|hq|hq
    · exact hR q hq
    · exact .inr (World.ownsRow.lt hi q hq).1
    · exact .inr (World.ownsRow.lt ht q hq).1
  · rcases hq with hq|hq
    · exact hV q hq
    · rcases h2 q hq with h|h
      · exact hV q h
      · exact .inr (Nat.le_trans hO.size (Nat.le_trans hb.size h))
  · exact(hO.trans (Only.of_below (S:=V) hb) λ_ h=>.inl h).trans h3 λq hq=>hV q hq
  · rcases List.mem_append.1 he with he|he
    · exact hn e he
    · obtain rfl:=List.mem_singleton.1 he
      exact⟨⟨js[k],List.getElem_mem hk,rfl,rfl,rfl,hfl.lists,rfl⟩,hft⟩
  · rw[List.take_succ_eq_append_getElem hk] at hy
    rw[<-List.append_assoc]
    rcases List.mem_append.1 hy with hy|hy
    · obtain⟨e,he,e1⟩:=ha y hy
      exact⟨e,List.mem_append_left _ he,e1⟩
    · obtain rfl:=List.mem_singleton.1 hy
      exact⟨_,List.mem_append_right _ (List.mem_singleton.2 rfl),rfl⟩
  · rw[<-List.append_assoc,List.map_append,List.nodup_append]
    refine⟨hd,by simp,λa ha b hb e=>?_⟩
    obtain⟨x,hx,rfl⟩:=List.mem_map.1 ha
    simp only[List.map_cons,List.map_nil,List.mem_singleton] at hb
    exact hno x hx (e.trans hb)
  · rw[List.length_append,List.length_singleton];omega
theorem pl_seen (U:Nat->Prop)(pb xb:Nat)(c:Cfg)(σ:Sg)(p:Pe)(w:World)(h:Pp w U pb xb c σ p)(hG:Gd0 c σ p)(hc:c.Ok)(hn:σ.rs.length<1048576)(hdr:(σ.ts c).acked=(σ.ts c).outs.length):
    Calls prog 63 #[.pointer (some ⟨pb,0,none⟩)] w λe w'=>e=.returned (.bool true)/\∃new U',Pp w' U' pb xb c σ {p with jobs:=p.jobs++new}/\Grows w w' U U'/\Gd0 c σ {p with jobs:=p.jobs++new}/\NotedJ (p.jobs++new) (σ.ts c).segs:=by
  obtain⟨X,R,V,v,hP,hL,hap,hU⟩:=h.ex
  have hj:=pJobs X xb c σ 0 g0 w hP hG.ok hc hn (by omega)
  have b0:=h.cell.1
  obtain⟨s1,s2,s3,s4,s5,s6⟩:=hG.small hc hn
  have HG:Hid (Gd0 c σ p):=hG
  have HL:Hid (PlIs w R V pb xb c p v):=hL
  have HX:Hid (ProgIs w X xb c σ 0 g0/\(∀k,X k->¬R k/\¬V k)/\∀k,X k\/R k\/V k->U k):=⟨hP,hap,hU⟩
  have hup:=hG.up
  clear h hG hL hP hap hU s1 s3 s5 s6
  go_enter func63,ntmps63
  go_wp2_with fail
  refine hj.mono ?_
  rintro e w1 ⟨hJ,hb1⟩
  rcases hJ with ⟨_,jv,js,rfl,hfst,hOut⟩|⟨hu,_⟩
  · have hrow:=hOut.row
    obtain⟨ja,jc,rfl⟩:=(Sl.of_row hrow).form
    have Hfst:Hid (js.map Prod.fst=(σ.ts c).jobs):=hfst
    have HOut:Hid (JobsOut w.heap.size ((σ.ts c).top 0) w1 (.slice ja js.length jc) js):=hOut
    have Hb1:Hid (Below w.heap.size w w1):=hb1
    have hinv:=HG.out.ok.fits.inv hc
    have hjl:js.length<=8:=by
      have h1:=congrArg List.length hfst
      rw[List.length_map] at h1
      rw[h1];exact hinv.1.jobs_few
    have Htop:Hid ((σ.ts c).top 0<8796093022208):=by
      have h1:(σ.ts c).ids.length<=σ.rs.length:=hinv.2.ids
      show 0+4*(σ.ts c).ids.length+256<_
      omega
    have HW1:Hid (∀y∈js,(∀g,y.2.1.ownBlock=some g->g<w1.heap.size)/\∀g,y.2.2.ownBlock=some g->g<w1.heap.size):=λy hy=>⟨λg hg=>(hOut.lt (.inr ⟨y,hy,.inl hg⟩)).1,λg hg=>(hOut.lt (.inr ⟨y,hy,.inr hg⟩)).1⟩
    clear hinv
    have H0:Hid (SeenAt w w1 w1 R V pb xb c p js 0):=⟨R,V,v,[],by rw[List.append_nil];exact HL.out.later hb1,λ_ h=>.inl h,λ_ h=>.inl h,Only.refl _ _,λe he=>(by cases he),λy hy=>(by simp at hy),by rw[List.append_nil];exact HG.out.ev.jn,Nat.le_refl _⟩
    have HVl:Hid (∀q,V q->q<w.heap.size):=λq hq=>HL.out.lt q (.inr hq)
    clear hj b0 hrow hfst hOut hb1 hup
    go_wp2_with fail
    go_loopw [5] (λiv wr=>∃k:Nat,k<=js.length/\iv=.int .i64 k/\Hid (SeenAt w w1 wr R V pb xb c p js k)) (λiv _=>js.length-(intOf iv).toNat)
    case atStart=>exact⟨0,Nat.zero_le _,rfl,H0⟩
    case round=>
      obtain⟨k,hk,rfl,HS⟩:=hrel
      by_cases hlt:k<js.length
      · obtain⟨R',V',v',new,hL',hR',hV',hO',hn',ha',hd2,hl'⟩:=HS.out
        obtain⟨wo,hwo⟩:∃x,x=wr:=⟨wr,rfl⟩
        subst hwo
        have hOut':JobsOut w.heap.size ((σ.ts c).top 0) wo (.slice ja js.length jc) js:=HOut.out.kept λq hq=>hO'.block q (HOut.out.lt hq).1 λhV=>by
          have h1:=HVl.out q hV
          rcases hq with hq|⟨y,hy,hq|hq⟩
          · have:=(World.ownsRow.lt HOut.out.row q hq).1;omega
          · have:=(World.ownsRow.lt (HOut.out.ids y hy) q hq).1;omega
          · obtain⟨fl,h2,_⟩:=HOut.out.tree y hy
            have:=(World.ownsRow.lt h2 q hq).1;omega
        obtain⟨⟨⟨num,til,ids,files⟩,iv,tv⟩,hy⟩:∃z,z=js[k]:=⟨_,rfl⟩
        have hjr:=Sl.of_row hOut'.row
        obtain⟨g1,o1,cap1,e1,_⟩:=hjr.addr (by omega)
        cases e1
        have j0:wo.cell? ⟨g1,o1+k*4,none⟩=some (.int .i64 num):=by have:=hjr.at_ (f:=cJv) (λ_=>rfl) hlt 0 rfl;rw[<-hy] at this;exact this
        have j1:wo.cell? ⟨g1,o1+k*4+1,none⟩=some (.int .i64 til):=by have:=hjr.at_ (f:=cJv) (λ_=>rfl) hlt 1 rfl;rw[<-hy] at this;exact this
        have j2:wo.cell? ⟨g1,o1+k*4+2,none⟩=some iv:=by have:=hjr.at_ (f:=cJv) (λ_=>rfl) hlt 2 rfl;rw[<-hy] at this;exact this
        have j3:wo.cell? ⟨g1,o1+k*4+3,none⟩=some tv:=by have:=hjr.at_ (f:=cJv) (λ_=>rfl) hlt 3 rfl;rw[<-hy] at this;exact this
        have hes:v'.es.length=p.jobs.length+new.length:=by have e:=congrArg List.length hL'.es;rw[List.length_map] at e;rw[e,List.length_append]
        have hesl:v'.es.length<1099511627776:=by omega
        obtain⟨jja,jjc,ejv⟩:=hL'.er.form
        have c9:wo.cell? ⟨pb,9,none⟩=some (.slice jja v'.es.length jjc):=by rw[<-ejv];exact hL'.bx.cell (i:=9) rfl
        have her:=hL'.er
        rw[ejv] at her
        have HER:Hid (Sl wo 126 6 (.slice jja v'.es.length jjc) v'.es.length (v'.es.flatMap cEo)):=her
        have Hes:Hid (v'.es.map Prod.fst=p.jobs++new):=hL'.es
        have HL':Hid (PlIs wo R' V' pb xb c {p with jobs:=p.jobs++new} v'):=hL'
        have Hst:Hid ((∀q,R' q->R q\/w.heap.size<=q)/\(∀q,V' q->V q\/w1.heap.size<=q)/\Only w1 wo V/\(∀e∈new,(∃y∈js,EntryOf y.1 e)/\e.tree.length<8796093022208)/\(∀y∈js.take k,∃e∈p.jobs++new,e.num=y.1.1)/\((p.jobs++new).map Eo.num).Nodup/\new.length<=k):=⟨hR',hV',hO',hn',ha',hd2,hl'⟩
        have HO2:Hid (JobsOut w.heap.size ((σ.ts c).top 0) wo (.slice (some ⟨g1,o1,none⟩) js.length jc) js):=hOut'
        have Hy:Hid (((num,til,ids,files),iv,tv)=js[k]):=hy
        have Hejv:Hid (v'.jv=.slice jja v'.es.length jjc):=ejv
        clear H0 HS hL' hR' hV' hO' hn' ha' hd2 hl' hOut' hjr her ejv hy hes HOut
        go_wp2_with fail
        go_loopw [6,7] (λbv mv wr=>∃m n:Nat,m<=v'.es.length/\mv=.int .i64 m/\bv=.bool (thereB ((p.jobs++new).take m) num)/\wr=wo.drewN n) (λ_ mv _=>v'.es.length-(intOf mv).toNat)
        case atStart=>exact⟨0,0,Nat.zero_le _,rfl,rfl,rfl⟩
        case round=>
          obtain⟨m,n,hm,rfl,rfl,rfl⟩:=hrel
          by_cases hlm:m<v'.es.length
          · obtain⟨gj,oj,cj,e2,_⟩:=HER.out.addr (by omega)
            cases e2
            have cm:wo.cell? ⟨gj,oj+m*6,none⟩=some (.int .i64 (v'.es[m].1.num:Nat)):=HER.out.at_ (f:=cEo) (λ_=>rfl) hlm 0 rfl
            have Hb:Hid (thereB ((p.jobs++new).take (m+1)) num=(thereB ((p.jobs++new).take m) num||v'.es[m].1.num==num)):=by
              show _=_
              have hlm':m<(p.jobs++new).length:=by rw[<-Hes.out,List.length_map];exact hlm
              rw[thereB_snoc hlm']
              congr 2
              simp only[<-Hes.out,List.getElem_map]
            clear HER
            cases hbv:thereB ((p.jobs++new).take m) num
            · have Hb2:Hid (thereB ((p.jobs++new).take (m+1)) num=(((v'.es[m].1.num:Nat):Int)==(num:Int))):=by
                show _=_
                rw[Hb.out,hbv,Bool.false_or,Bool.eq_iff_iff,beq_iff_eq,beq_iff_eq]
                omega
              clear Hb
              generalize ((v'.es[m].1.num:Nat):Int)=z at cm Hb2
              go_wp2
              go_quiet (fail)
              go_wp2
              exact⟨⟨m+1,n+nq,hlm,by go_num,by rw[Hb2.out],rfl⟩,by simp[intOf];omega⟩
            · have Hb2:Hid (thereB ((p.jobs++new).take (m+1)) num=true):=by show _=_;rw[Hb.out,hbv,Bool.true_or]
              clear Hb cm
              go_wp2
              go_quiet (fail)
              go_wp2
              exact⟨⟨m+1,n+nq,hlm,by go_num,by rw[Hb2.out],rfl⟩,by simp[intOf];omega⟩
          · have hfull:(p.jobs++new).take m=p.jobs++new:=List.take_of_length_le (by rw[<-Hes.out,List.length_map];omega)
            have hdw:=Drew.one wo n
            have HLd:Hid (PlIs (wo.drewN n) R' V' pb xb c {p with jobs:=p.jobs++new} v'):=HL'.out.later hdw.below
            have Hod:Hid (Only w1 (wo.drewN n) V):=Hst.out.2.2.1.trans (Only.of_below (S:=V) hdw.below) λ_ h=>.inl h
            have HOd:Hid (JobsOut w.heap.size ((σ.ts c).top 0) (wo.drewN n) (.slice (some ⟨g1,o1,none⟩) js.length jc) js):=HO2.out.kept λq hq=>hdw.below.block q (HO2.out.lt hq).1
            have HERd:Hid (Sl (wo.drewN n) 126 6 (.slice jja v'.es.length jjc) v'.es.length (v'.es.flatMap cEo)):=HER.out.later hdw.below
            rw[hfull]
            have i0:=below_ce hdw.below j0
            have i1:=below_ce hdw.below j1
            have i2:=below_ce hdw.below j2
            have i3:=below_ce hdw.below j3
            have c9d:=below_ce hdw.below c9
            clear hfull hdw HER HL' HO2 j0 j1 j2 j3 c9
            generalize wo.drewN n=wd at *
            cases hbv:thereB (p.jobs++new) num
            · have Hno:Hid (∀e∈p.jobs++new,e.num≠num):=thereB_no hbv
              have hmem:((num,til,ids,files),iv,tv)∈js:=by rw[Hy.out];exact List.getElem_mem hlt
              have hiR:wd.ownsRow w.heap.size 3 1 iv ids.length (ids.map cI):=HOd.out.ids _ hmem
              obtain⟨fl,htR,hfT,hfN⟩:∃fl:List Fl,wd.ownsRow w.heap.size 80 2 tv fl.length (fl.flatMap cF)/\Told fl files/\fl.length<=(σ.ts c).top 0:=HOd.out.tree _ hmem
              have hw1:=HW1.out _ hmem
              obtain⟨ia,ic,rfl⟩:=(Sl.of_row hiR).form
              obtain⟨ta,tc,rfl⟩:=(Sl.of_row htR).form
              have Hil:Hid (∀g,(Value.slice ia ids.length ic).ownBlock=some g->g<w1.heap.size):=hw1.1
              have Htl:Hid (∀g,(Value.slice ta fl.length tc).ownBlock=some g->g<w1.heap.size):=hw1.2
              obtain⟨la,lc,elv⟩:=HLd.out.lr.form
              have c11:wd.cell? ⟨pb,11,none⟩=some (.slice la p.landed.length lc):=by rw[HLd.out.bx.c 11 v'.lv];exact congrArg some elv
              obtain⟨i0',hi0,hz0,hz1,hz2⟩:=info_parts info_eo
              have q1:Hid (v'.es.length+1<=maxLen):=by show _<=_;unfold maxLen;omega
              have q2:Hid ((v'.es.length+1)*80<=140737488355328):=Nat.le_trans (Nat.mul_le_mul_right 80 (show v'.es.length+1<=1099511627776 by omega)) (by decide)
              have e9:=below_ce (below_new wd (.cells #[.int .i64 num,.int .i64 til,.slice ia ids.length ic,.slice ta fl.length tc,.int .i64 0,.int .i64 p.landed.length] 126)) c9d
              have HN:Hid (∀W JV,Sl W 126 6 JV (v'.es.length+1) (v'.es.flatMap cEo++[.int .i64 num,.int .i64 til,.slice ia ids.length ic,.slice ta fl.length tc,.int .i64 0,.int .i64 p.landed.length])->Moved (wd.alloc (.cells #[.int .i64 num,.int .i64 til,.slice ia ids.length ic,.slice ta fl.length tc,.int .i64 0,.int .i64 p.landed.length] 126)).drew W (.slice jja v'.es.length jjc) JV v'.es.length 1->(∃u,W.cell? ⟨pb,9,none⟩=some u/\W.frozen? ⟨pb,9,none⟩=false)/\SeenAt w w1 (W.setCell ⟨pb,9,none⟩ JV) R V pb xb c p js (k+1)):=λW JV hS hM=>by
                rw[<-Hejv.out] at hM
                have hyk:=Hy.out
                refine seen_next (fl:=fl) hlt HLd.out Hst.out.1 Hst.out.2.1 Hod.out HVl.out Hst.out.2.2.2.1 Hst.out.2.2.2.2.1 Hst.out.2.2.2.2.2.1 Hst.out.2.2.2.2.2.2 ?_ ?_ ?_ ?_ ?_ ?_ ?_ ?_ hM
                all_goals (try rw[<-hyk])
                · exact Hno.out
                · exact hiR
                · exact Hil.out
                · exact htR
                · exact Htl.out
                · exact hfT
                · exact Nat.lt_of_le_of_lt hfN Htop.out
                · exact hS
              clear hbv HLd Hod HOd hiR htR hfT hfN elv hmem Hil Htl Hno hw1
              go_wp2_with fail
              go_region_law ((refine step_append_slt rfl _ _ 55 rfl _ i0' _ 6 80 underlying55 hi0 hz0 hz1 hz2 rfl (by decide) (.slice jja v'.es.length jjc) _ _ rfl (Sl.mk HERd.out _) ⟨wd.heap.size,0,none⟩ 1 1 [.int .i64 num,.int .i64 til,.slice ia ids.length ic,.slice ta fl.length tc,.int .i64 0,.int .i64 p.landed.length] rfl rfl (cells_new wd _ _) (by simp[Value.oneCell']) (by decide) q1.out q2.out ?_;intro JV w6 hS6 hM6;obtain⟨⟨u6,d9,f9⟩,hF⟩:=HN.out w6 JV hS6 hM6;obtain⟨a7,c7,rfl⟩:=hS6.form;have HF:=hd' hF;clear hF hM6 hS6))
              all_goals
                go_wp2
                exact⟨⟨k+1,hlt,by go_num,HF⟩,by simp[intOf];omega⟩
            · have HF:Hid (SeenAt w w1 wd R V pb xb c p js (k+1)):=⟨R',V',v',new,HLd.out,Hst.out.1,Hst.out.2.1,Hod.out,Hst.out.2.2.2.1,λy hy'=>by
                rw[List.take_succ_eq_append_getElem hlt] at hy'
                rcases List.mem_append.1 hy' with hy'|hy'
                · exact Hst.out.2.2.2.2.1 y hy'
                · obtain rfl:=List.mem_singleton.1 hy'
                  obtain⟨e,he,e1⟩:=thereB_yes hbv
                  exact⟨e,he,by rw[e1,<-Hy.out]⟩,Hst.out.2.2.2.2.2.1,Nat.le_succ_of_le Hst.out.2.2.2.2.2.2⟩
              clear hbv HLd Hod HOd HERd i0 i1 i2 i3
              go_wp2
              exact⟨⟨k+1,hlt,by go_num,HF⟩,by simp[intOf];omega⟩
      · have HF:Hid (∃new U',Pp wr U' pb xb c σ {p with jobs:=p.jobs++new}/\Grows w wr U U'/\Gd0 c σ {p with jobs:=p.jobs++new}/\NotedJ (p.jobs++new) (σ.ts c).segs):=by
          obtain⟨R',V',v',new,hL',hR',hV',hO',hn',ha',hd2,_⟩:=HS.out
          rw[List.take_of_length_le (by omega)] at ha'
          obtain⟨hP,hap,hU⟩:=HX.out
          have hOw:Only w wr V:=(Only.of_below (S:=V) Hb1.out).trans hO' λ_ h=>.inl h
          have hP':ProgIs wr X xb c σ 0 g0:=hP.only hOw λk hX=>(hap k hX).2
          have hs1:=Hb1.out.size
          refine⟨new,λq=>X q\/R' q\/V' q,⟨⟨X,R',V',v',hP',hL',λq hq=>⟨λhR=>?_,λhV=>?_⟩,λ_ h=>h⟩,λq hq=>?_⟩,⟨hOw.mono λq hq=>hU q (.inr (.inr hq)),λq hq=>?_⟩,HG.out.seen hc (λe he=>?_) (λe he=>(hn' e he).2) (λy hy=>?_) hd2 hdr⟩
          · rcases hR' q hR with h|h
            · exact(hap q hq).1 h
            · have:=hP.xl q hq;omega
          · rcases hV' q hV with h|h
            · exact(hap q hq).2 h
            · have:=hP.xl q hq;omega
          · rcases hq with hq|hq
            · exact hP'.xl q hq
            · exact hL'.lt q hq
          · rcases hq with hq|hq|hq
            · exact .inl (hU q (.inl hq))
            · exact(hR' q hq).imp (λh=>hU q (.inr (.inl h))) λh=>h
            · exact(hV' q hq).imp (λh=>hU q (.inr (.inr h))) λh=>Nat.le_trans hs1 h
          · obtain⟨y,hy,hE⟩:=(hn' e he).1
            exact⟨y.1,by rw[<-Hfst.out];exact List.mem_map_of_mem hy,hE⟩
          · rw[<-Hfst.out] at hy
            obtain⟨z,hz,rfl⟩:=List.mem_map.1 hy
            exact ha' z hz
        clear H0 HS HOut HW1
        go_wp2
        go_ret
        exact⟨rfl,HF.out⟩
  · rw[hup] at hu;cases hu
end Go.Proofs.YtgamgomepdfgdaaGreat
