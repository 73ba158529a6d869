import Derived.Test.YtgamgomepdfgdaaGreatFM37
set_option maxRecDepth 100000
set_option maxHeartbeats 8000000
namespace Go.Proofs.YtgamgomepdfgdaaGreat
open Go.RowKit Go.Proofs.Tryz
def badOf (bl:List Bool)(id:Nat):Bool:=decide (1<=id)&&bl.getD (id-1) false
theorem job_first {c:Cfg}{s:Ts}{f:Sm}{m:List Sm}{j:Jb}(hI:s.Inv c)(e:s.segs=f::m)(hj:f.job=some j){y:Jbt}(hy:y∈s.jobs)(hn:y.1=j.num):y.2.2.1=f.l.map Prod.fst:=by
  have h:=hI.jobs_perm.mem_iff.1 hy
  have hp:=hI.jobs
  rw[e,List.pairwise_cons] at hp
  rw[e] at h
  have h:y∈(match f.job with|some j=>[(j.num,j.til,[]++f.l.map Prod.fst,j.files)]|none=>[])++jobsOf m ([]++f.l.map Prod.fst):=h
  rw[hj] at h
  rcases List.mem_append.1 h with h|h
  · rw[List.mem_singleton.1 h];rfl
  · obtain⟨x,hx,k,hk,e1,_⟩:=jobsOf_for h
    exact absurd (hn.symm.trans e1) (hp.1 x hx j k hj hk)
def jpass (bad:Nat->Bool)(num:Nat)(y:Jbt):Bool:=y.1 !=num|| !(y.2.2.1.any bad)
theorem jpass_all {c:Cfg}{s:Ts}{f:Sm}{m:List Sm}{j:Jb}(hI:s.Inv c)(e:s.segs=f::m)(hj:f.job=some j)(bad:Nat->Bool):s.jobs.all (jpass bad j.num)=clean bad f:=by
  have hany:(f.l.map Prod.fst).any bad=f.l.any λy=>bad y.1:=by rw[List.any_map];rfl
  cases hcl:clean bad f
  · rw[List.all_eq_false]
    obtain⟨y,hy,hn⟩:=hI.job_has (x:=f) (j:=j) (by rw[e];exact List.mem_cons_self) hj
    refine⟨y,hy,?_⟩
    have:=job_first hI e hj hy hn
    unfold jpass
    rw[this,hany]
    unfold clean at hcl
    rw[Bool.not_eq_false'] at hcl
    rw[hcl,hn]
    simp
  · rw[List.all_eq_true]
    intro y hy
    unfold jpass
    by_cases hn:y.1=j.num
    · have:=job_first hI e hj hy hn
      rw[this,hany]
      unfold clean at hcl
      rw[hcl,Bool.or_true]
    · rw[Bool.or_eq_true]
      left
      simpa using hn
def BoolsAt (w:World)(ba:Option Addr)(bl:List Bool):Prop:=bl=[]\/∃b off,ba=some ⟨b,off,none⟩/\b<w.heap.size/\∀i (h:i<bl.length),w.cell? ⟨b,off+i,none⟩=some (.bool bl[i])
theorem BoolsAt.later {w w':World}{ba:Option Addr}{bl:List Bool}(h:BoolsAt w ba bl)(hb:Below w.heap.size w w'):BoolsAt w' ba bl:=by
  rcases h with h|⟨b,off,e,hl,hc⟩
  · exact .inl h
  · exact .inr ⟨b,off,e,Nat.lt_of_lt_of_le hl hb.size,λi hi=>jcell_after hb (hc i hi)⟩
theorem all_snoc {α:Type}{p:α->Bool}{l:List α}{i:Nat}(h:i<l.length):(l.take (i+1)).all p=((l.take i).all p&&p l[i]):=by
  rw[List.take_succ_eq_append_getElem h,List.all_append];simp
theorem any_snoc {α:Type}{p:α->Bool}{l:List α}{i:Nat}(h:i<l.length):(l.take (i+1)).any p=((l.take i).any p||p l[i]):=by
  rw[List.take_succ_eq_append_getElem h,List.any_append];simp
theorem MkAt.only {w wr:World}{R V:Nat->Prop}{pb xb:Nat}{c:Cfg}{p:Pe}{D:Nat->Bool}{h k:Nat}(hM:MkAt w wr R V pb xb c p D h k):Only w wr V:=by
  obtain⟨v,hL,hO⟩:=hM
  exact hO
structure Verd (c:Cfg)(σ σ':Sg)(p p':Pe)(num:Nat)(pass:Bool):Prop where
  ts:σ'.ts c=(σ.ts c).answer num pass
  len:σ'.rs.length=σ.rs.length+1
  pe:p'={p with jobs:=setHow (λn=>n==num) (if pass then 1 else 2) p.jobs}
theorem pl_verdict (U:Nat->Prop)(pb xb:Nat)(c:Cfg)(σ:Sg)(p:Pe)(bl:List Bool)(ba:Option Addr)(bc:Nat)(f:Sm)(m:List Sm)(j:Jb)(w:World)(h:Pp w U pb xb c σ p)(hG:Gd c σ p)(hc:c.Ok)(hn:bud c σ+1<1048576)(hs:(σ.ts c).segs=f::m)(hj:f.job=some j)(hB:BoolsAt w ba bl)(hbl:bl.length<1048576):
    Calls prog 24 #[.pointer (some ⟨pb,0,none⟩),.slice ba bl.length bc] w λe w'=>e=.returned (.bool true)/\∃σ' p' U',Pp w' U' pb xb c σ' p'/\Grows w w' U U'/\Gd c σ' p'/\Verd c σ σ' p p' j.num (clean (badOf bl) f):=by
  have hrs:σ.rs.length+1<1048576:=by unfold bud at hn;omega
  have htr:=h.ask λX hX=>pTrain X xb c σ 0 g0 w hX hG.g.ok hc
  have HJobs:Hid (∀W,Pp W U pb xb c σ p->Calls prog 70 #[.pointer (some ⟨xb,0,none⟩)] W λe w'=>ProgJobs W w' e c g0 0 σ/\Below W.heap.size W w'/\Pp w' U pb xb c σ p):=λW hW=>hW.ask λX hX=>pJobs X xb c σ 0 g0 W hX hG.g.ok hc (by omega) (by omega)
  obtain⟨s1,s2,s3,s4,s5,s6⟩:=hG.g.small hc (by omega)
  have hI:(σ.ts c).Inv c:=(hG.g.ok.fits.inv hc).1
  have hup:=hG.g.up
  have b0:=h.cell.1
  have hjn:=((hI.sm f (by rw[hs];exact List.mem_cons_self)).job j hj).2.2.1
  have hjm:j.num<8388608:=by
    have h1:=((hI.sm f (by rw[hs];exact List.mem_cons_self)).job j hj).2.2.2.1
    have h2:=(hG.g.ok.fits.inv hc).2.begun
    have h3:(σ.ts c).begun<=4*σ.rs.length:=h2
    omega
  have HAll:=hd' (jpass_all hI hs hj (badOf bl))
  have HA:Hid (∀pass,AnsOk c σ p pass j.num):=λpass=>hG.answer hc (by omega) ⟨f,by rw[hs];exact List.mem_cons_self,j,hj,rfl⟩
  have Hok:=hd' hG.g.ok
  have hfew:=hI.jobs_few
  have Hseg:Hid ((σ.ts c).segs.map tellS=tellS f::m.map tellS/\(tellS f).2.2.2=j.num):=⟨by rw[hs];rfl,by show jobN f.job=_;rw[hj];rfl⟩
  have Hs8:Hid ((σ.ts c).segs.length<=8):=Nat.le_trans (segs_train _ λx hx=>(hI.sm x hx).ne) hI.tr
  have Hids8:Hid (∀y∈(σ.ts c).jobs,y.2.2.1.length<=8):=λy hy=>hI.job_len hy
  have HUl:Hid (∀k,U k->k<w.heap.size):=h.lt
  have HB:=hd' hB
  clear h hG hI hn hB hs hj s1 s3 s4 s5 s6
  generalize hnum:j.num=num at *
  clear hnum j
  generalize clean (badOf bl) f=pass at *
  go_enter func24,ntmps24
  go_wp2_with fail
  refine htr.mono ?_
  rintro e w1 ⟨hT,hb1,hp1⟩
  rcases hT with ⟨_,va,ga,rfl,hfa,hOa⟩|⟨hu,_⟩
  · have hga:ga.length=(σ.ts c).segs.length:=by have h1:=congrArg List.length hfa;simp only[List.length_map] at h1;exact h1
    have hgl:ga.length<=8:=by rw[hga];exact Hs8.out
    have hfa:ga.map Prod.fst=tellS f::m.map tellS:=hfa.trans Hseg.out.1
    have hg0:0<ga.length:=by have h1:=congrArg List.length hfa;simp only[List.length_map,List.length_cons] at h1;omega
    obtain⟨gt,ot,ct,e1,_⟩:=(Sl.of_row hOa.row).addr hg0
    subst e1
    have hga0:(ga[0]).1=tellS f:=by
      have:(ga.map Prod.fst)[0]'(by rw[List.length_map];exact hg0)=tellS f:=by simp only[hfa,List.getElem_cons_zero]
      rw[<-this,List.getElem_map]
    have t1:w1.cell? ⟨gt,ot+3,none⟩=some (.int .i64 (num:Nat)):=by
      have:=(Sl.of_row hOa.row).at_ (f:=cGv) (λ_=>rfl) hg0 3 (u:=.int .i64 ((ga[0]).1.2.2.2:Nat)) rfl
      rw[hga0,Hseg.out.2,Nat.zero_mul,Nat.add_zero] at this
      exact this
    have hgt:=World.ownsRow.lt hOa.row gt rfl
    have hne0:((ga.length:Int)==0)=false:=beq_false_of_ne (by omega)
    have hnn0:((num:Int)==0)=false:=beq_false_of_ne (by omega)
    have hjo:=HJobs.out w1 hp1
    have b1:=hp1.cell.1
    have Hb1:=hd' hb1
    clear hb1 hp1 hOa hfa hga hga0 HJobs htr b0 Hseg Hs8
    generalize ga.length=gn at *
    go_wp2_with fail
    refine hjo.mono ?_
    rintro e w2 ⟨hJ,hb2,hp2⟩
    rcases hJ with ⟨_,jv,js,rfl,hfst,hOut⟩|⟨hu,_⟩
    · obtain⟨ja,jc,rfl⟩:=(Sl.of_row hOut.row).form
      have hfst:js.map Prod.fst=(σ.ts c).jobs:=hfst
      have hjl:js.length<=8:=by have h1:=congrArg List.length hfst;rw[List.length_map] at h1;rw[h1];exact hfew
      have t2:w2.cell? ⟨gt,ot+3,none⟩=some (.int .i64 (num:Nat)):=jcell_after hb2 t1
      have HAll2:Hid (js.all (λy=>jpass (badOf bl) num y.1)=pass):=by show _=_;rw[<-HAll.out,<-hfst,List.all_map];rfl
      have Hi8:Hid (∀y∈js,y.1.2.2.1.length<=8):=λy hy=>Hids8.out _ (by rw[<-hfst];exact List.mem_map_of_mem hy)
      have HO:=hd' hOut
      have Hp2:=hd' hp2
      have Hb2:Hid (Below w.heap.size w w2):=Hb1.out.trans (hb2.mono Hb1.out.size)
      have HB2:Hid (BoolsAt w2 ba bl):=HB.out.later Hb2.out
      have Hgt2:Hid (w.heap.size<=gt/\gt<w2.heap.size):=⟨hgt.1,Nat.lt_of_lt_of_le hgt.2 hb2.size⟩
      clear hjo hb2 hp2 hOut hfst t1 b1 Hids8 hfew HAll HB Hb1 hgt
      go_wp2_with fail
      go_loopw [7,10] (λpv iv wr=>∃i k:Nat,i<=js.length/\iv=.int .i64 i/\pv=.bool ((js.take i).all λy=>jpass (badOf bl) num y.1)/\wr=w2.drewN k) (λ_ iv _=>js.length-(intOf iv).toNat)
      case atStart=>exact⟨0,0,Nat.zero_le _,rfl,rfl,rfl⟩
      case round=>
        obtain⟨i,k,hi,rfl,rfl,ew⟩:=hrel
        have hbW:Below w2.heap.size w2 wr:=by rw[ew];exact(Drew.one w2 k).below
        by_cases hlt:i<js.length
        · obtain⟨gj,oj,cj,e1,_⟩:=(Sl.of_row HO.out.row).addr (by omega)
          cases e1
          obtain⟨⟨⟨jn,jt,ids,jf⟩,iv,tv⟩,hy⟩:∃z,z=js[i]:=⟨_,rfl⟩
          have hmem:((jn,jt,ids,jf),iv,tv)∈js:=by rw[hy];exact List.getElem_mem hlt
          have d0:w2.cell? ⟨gj,oj+i*4,none⟩=some (.int .i64 (jn:Nat)):=by have:=(Sl.of_row HO.out.row).at_ (f:=cJv) (λ_=>rfl) hlt 0 rfl;rw[<-hy] at this;exact this
          have d2:w2.cell? ⟨gj,oj+i*4+2,none⟩=some iv:=by have:=(Sl.of_row HO.out.row).at_ (f:=cJv) (λ_=>rfl) hlt 2 rfl;rw[<-hy] at this;exact this
          have hids:Sl w2 3 1 iv ids.length (ids.map cI):=Sl.of_row (HO.out.ids _ hmem)
          have hi8:ids.length<=8:=Hi8.out _ hmem
          obtain⟨ia,ic,rfl⟩:=hids.form
          have Hsn:Hid ((js.take (i+1)).all (λy=>jpass (badOf bl) num y.1)=((js.take i).all (λy=>jpass (badOf bl) num y.1)&&(jn !=num|| !ids.any (badOf bl)))):=by show _=_;rw[all_snoc hlt,<-hy];rfl
          generalize (js.take i).all (λy=>jpass (badOf bl) num y.1)=P0 at *
          have Hids:=hd' hids
          clear hmem hids hy
          subst ew
          have Hbw:=hd' hbW
          clear hbW
          cases hq:((jn:Int)==(num:Int))
          · have HP:Hid ((js.take (i+1)).all (λy=>jpass (badOf bl) num y.1)=P0):=by
              show _=_
              rw[Hsn.out]
              have:(jn !=num)=true:=by simp only[beq_eq_false_iff_ne] at hq;rw[bne_iff_ne];omega
              rw[this,Bool.true_or,Bool.and_true]
            generalize (jn:Int)=z at *
            clear d2 Hsn Hids
            go_wp2_with fail
            go_quiet (fail)
            go_wp2_with fail
            exact⟨⟨i+1,_,hlt,by go_num,by rw[HP.out],rfl⟩,by simp[intOf];omega⟩
          · have HP:Hid ((js.take (i+1)).all (λy=>jpass (badOf bl) num y.1)=(P0&& !ids.any (badOf bl))):=by
              show _=_
              rw[Hsn.out]
              have:(jn !=num)=false:=by simp only[beq_iff_eq] at hq;rw[bne_eq_false_iff_eq];omega
              rw[this,Bool.false_or]
            generalize (jn:Int)=z at *
            clear Hsn
            go_wp2_with fail
            go_quiet (fail)
            have HW:Hid (∃k',(w2.drewN k).drewN nq=w2.drewN k'):=⟨k+nq,by simp⟩
            have hbq:Below w2.heap.size w2 ((w2.drewN k).drewN nq):=Hbw.out.trans ((Drew.one _ nq).below.mono Hbw.out.size)
            have e2:=jcell_after hbq d2
            have Hids2:Hid (Sl ((w2.drewN k).drewN nq) 3 1 (.slice ia ids.length ic) ids.length (ids.map cI)):=Hids.out.later hbq
            have HB3:=hd' (HB2.out.later hbq)
            clear d0 d2 hbq Hids Hbw hq
            generalize (w2.drewN k).drewN nq=wv at *
            go_wp2_with fail
            go_loopw [7,11] (λpv kv wr=>∃k:Nat,k<=ids.length/\kv=.int .i64 k/\pv=.bool (P0&& !(ids.take k).any (badOf bl))/\wr=wv) (λ_ kv _=>ids.length-(intOf kv).toNat)
            case atStart=>exact⟨0,Nat.zero_le _,rfl,by simp,rfl⟩
            case round=>
              obtain⟨q,hq,rfl,rfl,ew⟩:=hrel
              have ew:wr=wv:=ew
              subst ew
              by_cases hlq:q<ids.length
              · obtain⟨gi,oi,ci,e1,_⟩:=Hids2.out.addr (by omega)
                cases e1
                have c1:wr.cell? ⟨gi,oi+q,none⟩=some (.int .i64 (ids[q]:Nat)):=Hids2.out.cell (j:=q) (by rw[List.getElem?_map,List.getElem?_eq_getElem hlq];rfl)
                have Hn2:=hd' (any_snoc (p:=badOf bl) hlq)
                generalize ids[q]=t at c1 Hn2
                generalize (ids.take q).any (badOf bl)=A0 at *
                by_cases ht:1<=t/\t<=bl.length
                · obtain⟨u,rfl⟩:∃u,t=u+1:=⟨t-1,by omega⟩
                  have hul:u<bl.length:=by omega
                  rcases HB3.out with hnil|⟨gb,ob,rfl,hbl',hcb⟩
                  · rw[hnil] at hul;simp at hul
                  have c2:=hcb u hul
                  have Hv:Hid (badOf bl (u+1)=bl[u]):=by show _=_;unfold badOf;simp[List.getD,hul]
                  generalize bl[u]=bv at c2 Hv
                  have hd1:decide ((1:Int)<=((u+1:Nat):Int))=true:=decide_eq_true (by omega)
                  have hsub:IntKind.i64.wrap (((u+1:Nat):Int)-1)=(u:Int):=by rw[wrap_i64 (by omega) (by omega)];omega
                  cases bv
                  · have H3:Hid ((ids.take (q+1)).any (badOf bl)=A0):=by show _=_;rw[Hn2.out,Hv.out,Bool.or_false]
                    clear hcb Hn2 Hv hbl'
                    go_wp2
                    exact⟨⟨q+1,hlq,by go_num,by rw[H3.out],by first|exact rfl|exact trivial⟩,by simp[intOf];omega⟩
                  · have H3:Hid ((ids.take (q+1)).any (badOf bl)=true):=by show _=_;rw[Hn2.out,Hv.out,Bool.or_true]
                    clear hcb Hn2 Hv hbl'
                    go_wp2
                    exact⟨⟨q+1,hlq,by go_num,by rw[H3.out];simp,by first|exact rfl|exact trivial⟩,by simp[intOf];omega⟩
                · have Hv:Hid (badOf bl t=false):=by
                    show _=_
                    unfold badOf
                    by_cases h1:1<=t
                    · simp[List.getD,List.getElem?_eq_none (show bl.length<=t-1 by omega)]
                    · simp[h1]
                  have H3:Hid ((ids.take (q+1)).any (badOf bl)=A0):=by show _=_;rw[Hn2.out,Hv.out,Bool.or_false]
                  by_cases h1:1<=t
                  · have hd1:decide ((1:Int)<=(t:Int))=true:=decide_eq_true (by omega)
                    clear Hn2 Hv
                    go_wp2
                    exact⟨⟨q+1,hlq,by go_num,by rw[H3.out],by first|exact rfl|exact trivial⟩,by simp[intOf];omega⟩
                  · have hd1:decide ((1:Int)<=(t:Int))=false:=decide_eq_false (by omega)
                    clear Hn2 Hv
                    go_wp2
                    exact⟨⟨q+1,hlq,by go_num,by rw[H3.out],by first|exact rfl|exact trivial⟩,by simp[intOf];omega⟩
              · have hfull:ids.take q=ids:=List.take_of_length_le (by omega)
                rw[hfull]
                clear hfull
                go_wp2
                exact⟨⟨i+1,HW.out.choose,hlt,by go_num,by rw[HP.out],HW.out.choose_spec⟩,by simp[intOf];omega⟩
        · have hfull:js.take i=js:=List.take_of_length_le (by omega)
          rw[hfull,HAll2.out]
          have hbq:Below w2.heap.size w2 (wr.drewN 1):=hbW.trans ((Drew.one _ 1).below.mono hbW.size)
          have t3:=jcell_after hbW t2
          have b2:=(Hp2.out.later hbW).cell.1
          obtain⟨σ',hts,hl1,hG',hca,_⟩:=(HA.out pass).calls hc Hok.out hrs
          have hA2:=hca (wr.drewN 1) U pb xb (Hp2.out.later hbq)
          have HE:Hid (Gd c σ' {p with jobs:=setHow (λn=>n==num) (if pass then 1 else 2) p.jobs}/\Verd c σ σ' p {p with jobs:=setHow (λn=>n==num) (if pass then 1 else 2) p.jobs} num pass):=⟨hG',⟨hts,hl1,rfl⟩⟩
          have Hbq:Hid (Below w.heap.size w (wr.drewN 1)):=Hb2.out.trans (hbq.mono Hb2.out.size)
          have t4:(wr.drewN 1).cell? ⟨gt,ot+3,none⟩=some (.int .i64 (num:Nat)):=jcell_after hbq t2
          have Ht4:=hd' t4
          have Hgt4:Hid (gt<(wr.drewN 1).heap.size):=Nat.lt_of_lt_of_le Hgt2.out.2 hbq.size
          clear hfull hbq hbW ew hts hl1 hG' hca HA HO Hi8 HAll2 HB2 Hp2 Hb2 t2 t4 Hok
          go_wp2_with fail
          go_upto_region 16 with fail
          refine still_tail 9 (by kernel_rfl) (by kernel_rfl) λops QQ hQQ=>?_
          simp only[List.take_succ_cons,List.take_zero]
          still_step
          still_step
          still_step
          still_step
          still_step
          still_step
          still_step
          still_step
          still_step
          refine wpStill_nil ?_
          refine hQQ.out _ ?_
          clear hQQ t3 b2
          go_wp2_with fail
          go_fit hA2
          rintro _ w3 ⟨rfl,U3,hp3,hg3⟩
          have hgU3:¬U3 gt:=λhU=>by
            rcases hg3.sub gt hU with h1|h1
            · have h2:=HUl.out gt h1;have h3:=Hgt2.out.1;omega
            · have h2:=Hgt4.out;omega
          have t5:w3.cell? ⟨gt,ot+3,none⟩=some (.int .i64 (num:Nat)):=by
            rw[<-Ht4.out]
            exact World.cell?_of_block (hg3.only.block gt Hgt4.out λhU=>by have h2:=HUl.out gt hU;have h3:=Hgt2.out.1;omega)
          have Hg3:Hid (Grows w w3 U U3):=Grows.from_below Hbq.out hg3
          obtain⟨X,R,V,v,hP3,hL3,hap3,hU3⟩:=hp3.ex
          have HX3:Hid (ProgIs w3 X xb c σ' 0 g0/\(∀k,X k->¬R k/\¬V k)/\∀k,X k\/R k\/V k->U3 k):=⟨hP3,hap3,hU3⟩
          have H0:Hid (MkAt w3 w3 R V pb xb c p (λn=>n==num) (if pass then 1 else 2) 0):=⟨v,by rw[mixH_zero];exact hL3,Only.refl _ _⟩
          have Hfin:Hid (∀W,MkAt w3 W R V pb xb c p (λn=>n==num) (if pass then 1 else 2) p.jobs.length->∃σ' p' U',Pp W U' pb xb c σ' p'/\Grows w W U U'/\Gd c σ' p'/\Verd c σ σ' p p' num pass):=λW hW=>by
            obtain⟨v',hL,hO⟩:=hW
            rw[mixH_all] at hL
            obtain⟨U9,hp9,hg9⟩:=Pp.went HX3.out.1 HX3.out.2.1 HX3.out.2.2 (⟨⟨R,V,v',hL,λ_ h=>.inl h,λ_ h=>.inl h⟩,hO⟩:PlGo w3 W R V pb xb c _)
            exact⟨σ',_,U9,hp9,Hg3.out.trans hg9,HE.out⟩
          have HT5:Hid (∀W,Only w3 W V->W.cell? ⟨gt,ot+3,none⟩=some (.int .i64 (num:Nat))):=λW hO=>by
            rw[<-t5]
            exact World.cell?_of_block (hO.block gt (jcell_lt t5) λhV=>hgU3 (HX3.out.2.2 gt (.inr (.inr hV))))
          clear hp3 hg3 hP3 hL3 hap3 hU3 hA2 Ht4 Hgt4 Hgt2 t5 hgU3 HUl Hbq
          go_wp2_with fail
          go_loopw [14] (λiv wr=>∃k:Nat,k<=p.jobs.length/\iv=.int .i64 k/\Hid (MkAt w3 wr R V pb xb c p (λn=>n==num) (if pass then 1 else 2) k)) (λiv _=>p.jobs.length-(intOf iv).toNat)
          case atStart=>exact⟨0,Nat.zero_le _,rfl,H0⟩
          case round=>
            obtain⟨k,hk,rfl,HM⟩:=hrel
            obtain⟨jb,jd,c9,hfa⟩:=HM.out.facts
            clear H0
            by_cases hlt2:k<p.jobs.length
            · obtain⟨g,off,rfl,k0,_⟩:=hfa hlt2
              have t6:=HT5.out wr HM.out.only
              clear hfa
              cases hq:((p.jobs[k].num:Int)==(num:Int))
              · have Hno:Hid ((λn=>n==num) p.jobs[k].num=false):=by show _=_;simp only[beq_eq_false_iff_ne] at hq ⊢;omega
                generalize hz:((p.jobs[k].num:Nat):Int)=z at *
                clear hz
                go_wp2_with fail
                go_quiet (fail)
                have HM2:=HM.out.later (Drew.one wr nq).below
                obtain⟨jb',jd',c9',hfa'⟩:=HM2.facts
                obtain⟨g',off',e1,_,_,_,_,_,_,hno⟩:=hfa' hlt2
                have Hn:=hd' (hno Hno.out)
                clear hfa' hno HM2 HM c9 c9' k0 t6
                go_wp2
                exact⟨⟨k+1,hlt2,by go_num,Hn⟩,by simp[intOf];omega⟩
              · have Hys:Hid ((λn=>n==num) p.jobs[k].num=true):=by show _=_;simp only[beq_iff_eq] at hq ⊢;omega
                generalize hz:((p.jobs[k].num:Nat):Int)=z at *
                clear hz
                go_wp2_with fail
                go_quiet (fail)
                have HM2:=HM.out.later (Drew.one wr nq).below
                obtain⟨jb',jd',c9',hfa'⟩:=HM2.facts
                obtain⟨g',off',e1,_,⟨u4,k4⟩,f4,hne,hcs,hyes,_⟩:=hfa' hlt2
                subst e1
                obtain⟨hy1,hy2⟩:=hyes Hys.out
                have d9:=hcs (.int .i64 2)
                clear hfa' hcs hyes HM2 HM c9 k0 t6
                generalize wr.drewN nq=wq at *
                cases pass
                · have Hn:=hd' hy1
                  clear hy1 hy2
                  go_wp2
                  exact⟨⟨k+1,hlt2,by go_num,Hn⟩,by simp[intOf];omega⟩
                · have Hn:=hd' (hy2 rfl)
                  clear hy1 hy2
                  have f5:(wq.setCell ⟨g',off'+k*6+4,none⟩ (.int .i64 2)).frozen? ⟨g',off'+k*6+4,none⟩=false:=by simp[f4]
                  go_wp2
                  exact⟨⟨k+1,hlt2,by go_num,Hn⟩,by simp[intOf];omega⟩
            · have e:k=p.jobs.length:=by omega
              have HF:=hd' (Hfin.out wr (by rw[<-e];exact HM.out))
              clear hfa HM e
              go_wp2
              go_ret
              exact⟨rfl,HF.out⟩
    · rw[hup] at hu;cases hu
  · rw[hup] at hu;cases hu
end Go.Proofs.YtgamgomepdfgdaaGreat
