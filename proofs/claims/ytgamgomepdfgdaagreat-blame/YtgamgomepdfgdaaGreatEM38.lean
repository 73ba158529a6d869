import Derived.Test.YtgamgomepdfgdaaGreatEM37
set_option maxRecDepth 100000
set_option maxHeartbeats 8000000
namespace Go.Proofs.YtgamgomepdfgdaaGreat
open Go.RowKit Go.Proofs.Tryz
def pickN (c:Int)(n:Nat):Nat:=(if c<0 then (-(c+1)).toNat else c.toNat)%n
theorem pickN_lt {c:Int}{n:Nat}(h:0<n):pickN c n<n:=Nat.mod_lt _ h
theorem pick_at (c:Int)(n:Nat)(hc:-9223372036854775808<=c/\c<9223372036854775808)(h0:0<n)(hn:n<1099511627776)(w:World):
    Calls prog 26 #[.int .i64 c,.int .i64 n] w λe w'=>e=.returned (.int .i64 (pickN c n:Nat))/\w'=w:=by
  obtain⟨h1,h2⟩:=hc
  unfold pickN
  by_cases hneg:c<0
  · rw[if_pos hneg]
    obtain⟨z,hz⟩:∃z,z=(-(c+1)).toNat%n:=⟨_,rfl⟩
    rw[<-hz]
    have Hz:=hd' hz
    clear hz
    go_enter func26,ntmps26
    go_wp2_with fail
    go_ret
    refine⟨?_,rfl⟩
    rw[Hz.out]
    have e:-((c+1).tmod n)=(((-(c+1)).toNat%n:Nat):Int):=by
      rw[<-Int.neg_tmod,Int.tmod_eq_emod_of_nonneg (by omega),Int.natCast_emod,Int.toNat_of_nonneg (by omega)]
    show Ending.returned (.int .i64 (-((c+1).tmod n)))=_
    rw[e]
  · rw[if_neg hneg]
    obtain⟨z,hz⟩:∃z,z=c.toNat%n:=⟨_,rfl⟩
    rw[<-hz]
    have Hz:=hd' hz
    clear hz
    go_enter func26,ntmps26
    go_wp2_with fail
    go_ret
    refine⟨?_,rfl⟩
    rw[Hz.out]
    have e:c%n=((c.toNat%n:Nat):Int):=by
      rw[Int.natCast_emod,Int.toNat_of_nonneg (by omega)]
    show Ending.returned (.int .i64 (c%n))=_
    rw[e]
def waitsB (l:List Tw)(n:Nat):Bool:=l.any λz=>z.1==n
theorem waitsB_snoc {l:List Tw}{n m:Nat}(h:m<l.length):waitsB (l.take (m+1)) n=(waitsB (l.take m) n||l[m].1==n):=by
  unfold waitsB
  rw[List.take_succ_eq_append_getElem h,List.any_append];simp
theorem waitsB_iff {c:Cfg}{s:Ts}(hI:s.Inv c)(hc:c.Ok){n:Nat}:waitsB (tellQ c.age s.queue) n=true↔∃x∈s.queue,x.id=n:=by
  have hp:(rkG (laneC c.age) s.queue 4).Perm s.queue:=hI.ranked hc
  unfold waitsB tellQ
  rw[List.any_map,List.any_eq_true]
  constructor
  · rintro⟨x,hx,h⟩
    exact⟨x,hp.mem_iff.1 hx,by simpa[tC] using h⟩
  · rintro⟨x,hx,h⟩
    exact⟨x,hp.mem_iff.2 hx,by simpa[tC] using h⟩
theorem Gd.cancel0 {c:Cfg}{σ:Sg}{p:Pe}{id:Nat}(h:Gd c σ p)(hc:c.Ok)(hw:∃x∈(σ.ts c).queue,x.id=id):
    CanErr (σ.ts c) id 0/\Gd0 c (σ.cancel id 0).2 p/\(σ.cancel id 0).1=0/\(σ.cancel id 0).2.ts c={σ.ts c with queue:=(σ.ts c).queue.filter (λx=>x.id !=id),outs:=(σ.ts c).outs++[(id,4)]}/\(σ.cancel id 0).2.rs.length=σ.rs.length+1:=by
  have hI:(σ.ts c).Inv c:=(h.g.ok.fits.inv hc).1
  have he:CanErr (σ.ts c) id 0:=.inl ⟨by obtain⟨x,hx,e⟩:=hw;exact⟨x,hx,by omega⟩,rfl⟩
  have hcan:=(can_can (c:=c) (g:=g0) he hI rfl).1
  have hact:σ.cancel id 0=(0,{σ with rs:=σ.rs++[⟨2,0,id,false,[]⟩]}):=Sg.act_ok h.g.up h.g.br
  have hts:(σ.cancel id 0).2.ts c={σ.ts c with queue:=(σ.ts c).queue.filter (λx=>x.id !=id),outs:=(σ.ts c).outs++[(id,4)]}:=(ts_snoc h.g.up h.g.br).trans (does2 c _ _)
  refine⟨he,⟨h.g.ok.act hc λ_=>hcan,by rw[hact];exact h.g.up,by rw[hact];exact h.g.br,by rw[hts];exact h.g.ev.cancel hI.nd hw,?_,by rw[hts];exact h.g.now,h.g.eok,h.g.tl,h.g.jt⟩,by rw[hact],hts,by rw[hact];simp⟩
  rw[hts]
  obtain⟨x,hx,e⟩:=hw
  exact h.g.pos.more h.dr rfl rfl rfl ⟨x.edits,by have:=h.g.ev.eq x hx;rw[e] at this;exact this,.inr (.inr (.inr ⟨rfl,rfl⟩))⟩
structure Canced (c:Cfg)(σ σ':Sg)(p p':Pe):Prop where
  bud:Go.Proofs.YtgamgomepdfgdaaGreat.bud c σ'<=Go.Proofs.YtgamgomepdfgdaaGreat.bud c σ+1
  kn:p'.known.map (λk=>(k.id,k.es))=p.known.map λk=>(k.id,k.es)
theorem Gd0.drained {c:Cfg}{σ σ':Sg}{p p':Pe}(h:Gd0 c σ' p')(hD:Dr c σ σ' p p')(ha:(σ'.ts c).acked=(σ'.ts c).outs.length)(hnt:NotedJ p.jobs (σ.ts c).segs):Gd c σ' p':=⟨h,ha,by rw[hD.ts,hD.jobs];exact hnt⟩
theorem pl_cancel (U:Nat->Prop)(pb xb:Nat)(c:Cfg)(σ:Sg)(p:Pe)(kk:Int)(w:World)(h:Pp w U pb xb c σ p)(hG:Gd c σ p)(hc:c.Ok)(hn:bud c σ+1<1048576)(hkk:-9223372036854775808<=kk/\kk<9223372036854775808)(hk0:0<p.known.length):
    Calls prog 61 #[.pointer (some ⟨pb,0,none⟩),.int .i64 kk] w λe w'=>e=.returned (.bool true)/\∃σ' p' U',Pp w' U' pb xb c σ' p'/\Grows w w' U U'/\Gd c σ' p'/\Canced c σ σ' p p':=by
  have hrs:σ.rs.length+1<1048576:=by unfold bud at hn;omega
  obtain⟨s1,s2,s3,s4,s5,s6⟩:=hG.g.small hc (by omega)
  obtain⟨X,R,V,v,hP,hL,hap,hU⟩:=h.ex
  have hlen:v.ks.length=p.known.length:=by rw[<-hL.ks,List.length_map]
  obtain⟨gk,ok,ck,ekv,_⟩:=hL.kr.addr (by omega)
  have c8:w.cell? ⟨pb,8,none⟩=some (.slice (some ⟨gk,ok,none⟩) p.known.length ck):=by rw[<-hlen,<-ekv];exact hL.bx.cell (i:=8) rfl
  have hpl:=pickN_lt (c:=kk) hk0
  have hkr:=hL.kr
  rw[ekv] at hkr
  have cid:w.cell? ⟨gk,ok+pickN kk p.known.length*3,none⟩=some (.int .i64 (p.known[pickN kk p.known.length].id:Nat)):=by
    have hlt:pickN kk p.known.length<v.ks.length:=by omega
    have h0:w.cell? ⟨gk,ok+pickN kk p.known.length*3,none⟩=some (.int .i64 ((v.ks[pickN kk p.known.length]).1.id:Nat)):=hkr.at_ (f:=cKn) (λ_=>rfl) hlt 0 rfl
    rw[h0]
    have:(v.ks[pickN kk p.known.length]).1=p.known[pickN kk p.known.length]:=by
      have e:(v.ks.map Prod.fst)[pickN kk p.known.length]'(by rw[List.length_map];exact hlt)=p.known[pickN kk p.known.length]:=by simp only[hL.ks]
      rw[<-e,List.getElem_map]
    rw[this]
  have hpick:∀n,Calls prog 26 #[.int .i64 kk,.int .i64 p.known.length] (w.drewN n) λe w''=>e=.returned (.int .i64 (pickN kk p.known.length:Nat))/\w''=w.drewN n:=λn=>pick_at kk p.known.length hkk hk0 (by omega) _
  have hne0:((p.known.length:Int)==0)=false:=beq_false_of_ne (by omega)
  have Hid0:Hid (p.known[pickN kk p.known.length].id∈p.known.map Kn.id):=List.mem_map_of_mem (List.getElem_mem hpl)
  generalize (p.known[pickN kk p.known.length]).id=id at cid Hid0
  generalize pickN kk p.known.length=pk at cid hpick hpl
  have hI:(σ.ts c).Inv c:=(hG.g.ok.fits.inv hc).1
  have HQ:Hid (∀W,Below w.heap.size w W->Calls prog 27 #[.pointer (some ⟨xb,0,none⟩)] W λe w'=>TellsQ W w' e c g0 σ/\Below W.heap.size W w'/\Pp w' U pb xb c σ p):=λW hb=>(h.later hb).ask λX hX=>pQueue X xb c σ 0 g0 W hX hG.g.ok hc (by omega)
  have HB0:Hid (∀W,Below w.heap.size w W->W.cell? ⟨pb,0,none⟩=some (.pointer (some ⟨xb,0,none⟩))):=λW hb=>(h.later hb).cell.1
  obtain⟨err,σ2,hcase,hcall,hdr⟩:∃err σ2,((waitsB (tellQ c.age (σ.ts c).queue) id=true/\err=0)\/(waitsB (tellQ c.age (σ.ts c).queue) id=false/\err=5))/\
      (∀W U1,Pp W U1 pb xb c σ p->Calls prog 40 #[.pointer (some ⟨xb,0,none⟩),.int .i64 (id:Nat)] W λe w'=>e=.returned (.int .i64 err)/\∃U',Pp w' U' pb xb c σ2 p/\Grows W w' U1 U')/\
      (∀W U1,Pp W U1 pb xb c σ2 p->Calls prog 33 #[.pointer (some ⟨pb,0,none⟩)] W λe w'=>e=.returned (.bool true)/\∃σ' p' U',Pp w' U' pb xb c σ' p'/\Grows W w' U1 U'/\(Gd c σ' p'/\Canced c σ σ' p p')/\(waitsB (tellQ c.age (σ.ts c).queue) id=true->∀k∈p'.known,k.id=id->k.kind=4)):=by
    by_cases hw:∃x∈(σ.ts c).queue,x.id=id
    · obtain⟨he,hG2,hz,hts,hl2⟩:=hG.cancel0 hc hw
      have hC:∀X W,ProgIs W X xb c σ 0 g0->Calls prog 40 #[.pointer (some ⟨xb,0,none⟩),.int .i64 (id:Nat)] W λe w'=>PDid W w' e X xb c 0 g0 (σ.cancel id 0):=λX W hX=>pCancel X xb c σ 0 g0 id 0 W hX hG.g.ok hc (by omega) he
      obtain⟨k2,σ2,hk2⟩:∃k σ2,σ.cancel id 0=(k,σ2):=⟨_,_,rfl⟩
      rw[hk2] at hG2 hz hts hl2 hC
      have hz:k2=0:=hz
      subst hz
      have hts:σ2.ts c=_:=hts
      have hl2:σ2.rs.length=σ.rs.length+1:=hl2
      have hG2:Gd0 c σ2 p:=hG2
      have hno:id∉(σ.ts c).outs.map Prod.fst:=λhm=>by
        have hnd:=(hG.g.ev.perm.nodup_iff).2 hG.g.ev.nd
        obtain⟨x,hx,e⟩:=hw
        exact(List.nodup_append.1 hnd).2.2 id hm id (List.mem_append_left _ (List.mem_map.2 ⟨x,hx,e⟩)) rfl
      have f2:(σ2.ts c).ids.length=(σ.ts c).ids.length/\(σ2.ts c).acked=(σ.ts c).acked/\(σ2.ts c).outs=(σ.ts c).outs++[(id,4)]/\(σ2.ts c).segs=(σ.ts c).segs:=by rw[hts];exact⟨rfl,rfl,rfl,rfl⟩
      have hfew:=hG2.few hc
      have hbud2:bud c σ2<=bud c σ+1:=by unfold bud;rw[hl2,f2.1,f2.2.1];omega
      refine⟨0,σ2,.inl ⟨(waitsB_iff hI hc).2 hw,rfl⟩,λW U1 hW=>hW.call λX hX _=>hC X W hX,λW U1 hW=>?_⟩
      refine(pl_drain U1 pb xb c σ2 p W hW hG2 hc (by unfold bud at hbud2 hn;omega)).mono ?_
      rintro e w' ⟨he,σ',p',U',hp,hg,hG',hD,ha⟩
      have e1:(σ'.ts c).outs=(σ2.ts c).outs:=by rw[hD.ts]
      refine⟨he,σ',p',U',hp,hg,⟨hG'.drained hD ha (by rw[f2.2.2.2];exact hG.nt),?_,hD.kn⟩,λ_ k hk e=>?_⟩
      · have hle:=hD.le ha hfew.2
        have h3:=hD.bud hle (by rw[ha,e1];exact hfew.1)
        omega
      · rw[hG'.pos.kinds k hk,ha,List.take_length,e1,f2.2.2.1,kindOf_snoc _ _ _ hno,if_pos e.symm]
    · have he:CanErr (σ.ts c) id 5:=.inr ⟨λ⟨x,hx,e⟩=>hw ⟨x,hx,by omega⟩,rfl⟩
      have hno:σ.cancel id 5=(5,σ):=Sg.act_no hG.g.up (by decide)
      have hC:∀X W,ProgIs W X xb c σ 0 g0->Calls prog 40 #[.pointer (some ⟨xb,0,none⟩),.int .i64 (id:Nat)] W λe w'=>PDid W w' e X xb c 0 g0 (σ.cancel id 5):=λX W hX=>pCancel X xb c σ 0 g0 id 5 W hX hG.g.ok hc (by omega) he
      rw[hno] at hC
      have hwf:waitsB (tellQ c.age (σ.ts c).queue) id=false:=by
        cases hb:waitsB (tellQ c.age (σ.ts c).queue) id
        · rfl
        · exact absurd ((waitsB_iff hI hc).1 hb) hw
      refine⟨5,σ,.inr ⟨hwf,rfl⟩,λW U1 hW=>hW.call λX hX _=>hC X W hX,λW U1 hW=>?_⟩
      refine(pl_drain U1 pb xb c σ p W hW hG.g hc (by have:=hG.dr;omega)).mono ?_
      rintro e w' ⟨he,σ',p',U',hp,hg,hG',hD,ha⟩
      have e1:(σ'.ts c).outs=(σ.ts c).outs:=by rw[hD.ts]
      have hfew:=hG.g.few hc
      refine⟨he,σ',p',U',hp,hg,⟨hG'.drained hD ha hG.nt,?_,hD.kn⟩,λhb=>by rw[hwf] at hb;cases hb⟩
      have hle:=hD.le ha hfew.2
      have h3:=hD.bud hle (by rw[ha,e1];exact hfew.1)
      omega
  have hqlen:(tellQ c.age (σ.ts c).queue).length<=16:=by
    rw[tellQ_len λx hx=>by have:=(hI.top x hx).2.1;have:=hc.1.2;omega]
    exact Nat.le_trans hI.len hc.2.2.2.2.2.2.2
  have HCall:=hd' hcall
  have HDr:=hd' hdr
  have Hcase:=hd' hcase
  have hup:=hG.g.up
  clear h hG hP hL hap hU hlen ekv hkr hI hn hcall hdr hcase s3 s4 s5 s6 hkk
  go_enter func61,ntmps61
  go_wp2_with fail
  go_quiet ((go_at_call 26;exact Calls.quiet_of_same (hpick _)))
  have hbw:Below w.heap.size w (w.drewN nq):=(Drew.one w nq).below
  have b0:=HB0.out _ hbw
  have hq:=HQ.out _ hbw
  have Hbw:=hd' hbw
  clear hpick cid c8 hbw HB0 HQ
  generalize w.drewN nq=w1 at *
  go_wp2_with fail
  refine hq.mono ?_
  rintro e w2 ⟨hT,hb2,hp2⟩
  rcases hT with ⟨_,qv,rfl,hrow⟩|⟨hu,_⟩
  · have hrow:w2.ownsRow w1.heap.size 71 3 qv (tellQ c.age (σ.ts c).queue).length ((tellQ c.age (σ.ts c).queue).flatMap cT):=hrow
    generalize tellQ c.age (σ.ts c).queue=tq at *
    obtain⟨qa,qc,rfl⟩:=(Sl.of_row hrow).form
    have Hrow:=hd' (Sl.of_row hrow)
    have Hp2:=hd' hp2
    have Hg2:Hid (Grows w w2 U U):=(Grows.of_below Hbw.out).trans (Grows.of_below hb2)
    clear hq hrow hb2 hp2 b0
    go_wp2_with fail
    go_loopw [8,9] (λbv iv wr=>∃m:Nat,m<=tq.length/\iv=.int .i64 m/\bv=.bool (waitsB (tq.take m) id)/\wr=w2) (λ_ iv _=>tq.length-(intOf iv).toNat)
    case atStart=>exact⟨0,Nat.zero_le _,rfl,rfl,rfl⟩
    case round=>
      obtain⟨m,hm,rfl,rfl,e2⟩:=hrel
      have e2:wr=w2:=e2
      subst e2
      by_cases hlm:m<tq.length
      · obtain⟨gq,oq,cq,e1,_⟩:=Hrow.out.addr (by omega)
        cases e1
        have cm:wr.cell? ⟨gq,oq+m*3,none⟩=some (.int .i64 (tq[m].1:Nat)):=Hrow.out.at_ (f:=cT) (λ_=>rfl) hlm 0 rfl
        have Hb:=hd' (waitsB_snoc (n:=id) hlm)
        cases hbv:waitsB (tq.take m) id
        · have Hb2:Hid (waitsB (tq.take (m+1)) id=(((tq[m].1:Nat):Int)==(id:Int))):=by
            show _=_
            rw[Hb.out,hbv,Bool.false_or,Bool.eq_iff_iff,beq_iff_eq,beq_iff_eq]
            omega
          clear Hb Hrow
          generalize ((tq[m].1:Nat):Int)=z at cm Hb2
          go_wp2
          exact⟨⟨m+1,hlm,by go_num,by rw[Hb2.out],by first|exact rfl|exact trivial⟩,by simp[intOf];omega⟩
        · have Hb2:Hid (waitsB (tq.take (m+1)) id=true):=by show _=_;rw[Hb.out,hbv,Bool.true_or]
          clear Hb Hrow cm
          go_wp2
          exact⟨⟨m+1,hlm,by go_num,by rw[Hb2.out],by first|exact rfl|exact trivial⟩,by simp[intOf];omega⟩
      · have hfull:tq.take m=tq:=List.take_of_length_le (by omega)
        rw[hfull]
        have b2:=Hp2.out.cell.1
        have hca:=HCall.out wr U Hp2.out
        clear hfull Hrow
        go_wp2_with fail
        refine hca.mono ?_
        rintro _ w3 ⟨rfl,U3,hp3,hg3⟩
        have Hg3:Hid (Grows w w3 U U3):=Hg2.out.trans hg3
        have hdr:=HDr.out w3 U3 hp3
        clear hca b2 hp3 hg3 Hp2
        go_wp2_with fail
        refine hdr.mono ?_
        rintro _ w4 ⟨rfl,σ',p',U4,hp4,hg4,hGC,hkd⟩
        have Hg4:Hid (Grows w w4 U U4):=Hg3.out.trans hg4
        have hpk:p'.known.length=p.known.length:=by have:=congrArg List.length hGC.2.kn;simpa using this
        have hids:p'.known.map Kn.id=p.known.map Kn.id:=by
          have:=congrArg (List.map Prod.fst) hGC.2.kn
          simpa[Function.comp_def] using this
        have hfi:=hp4.look (Q:=λe _=>FindRes e p'.known (id:Nat)) λR V v hL=>(pl_find R V pb xb c p' v (id:Nat) w4 hL (by omega)).mono λe w' hh=>⟨hh.1,hh.2▸Below.refl _ _⟩
        have HGC:=hd' hGC
        have Hkd:=hd' hkd
        have Hids:=hd' hids
        have Hpk:=hd' hpk
        clear hdr hp4 hg4 hGC hkd hids hpk Hg3 HCall HDr
        go_wp2_with fail
        refine hfi.mono ?_
        rintro e w5 ⟨hFr,hb5,hp5⟩
        have HF:Hid (∃σ' p' U',Pp w5 U' pb xb c σ' p'/\Grows w w5 U U'/\Gd c σ' p'/\Canced c σ σ' p p'):=⟨σ',p',U4,hp5,Hg4.out.trans (Grows.of_below hb5),HGC.out⟩
        obtain⟨X,R,V,v,_,hL5,_,_⟩:=hp5.ex
        rcases hFr with ⟨i,k5,hk5,hid5,rfl⟩|⟨hno,rfl⟩
        · rcases Hcase.out with ⟨hw,rfl⟩|⟨hw,rfl⟩
          · have hkind:k5.kind=4:=Hkd.out hw k5 (List.mem_of_getElem? hk5) (by omega)
            obtain⟨ev,hev⟩:=ks_at hL5.ks hk5
            obtain⟨hi5,hie⟩:=List.getElem?_eq_some_iff.1 hev
            obtain⟨gx,ox,cx,ex,_⟩:=hL5.kr.addr (by omega)
            have c85:w5.cell? ⟨pb,8,none⟩=some (.slice (some ⟨gx,ox,none⟩) v.ks.length cx):=by rw[<-ex];exact hL5.bx.cell (i:=8) rfl
            have hkr:=hL5.kr
            rw[ex] at hkr
            have ck:w5.cell? ⟨gx,ox+i*3+1,none⟩=some (.int .i64 4):=hkr.at_ (f:=cKn) (λ_=>rfl) hi5 1 (by rw[hie];show some (Value.int .i64 (k5.kind:Int))=_;rw[hkind];rfl)
            have hvl:v.ks.length<1099511627776:=by
              have h1:=congrArg List.length hL5.ks
              rw[List.length_map] at h1
              have:=Hpk.out
              omega
            rw[hw]
            clear hfi hb5 hp5 hL5 hk5 hid5 hkind hev hie ex hkr hw Hcase
            go_wp2
            go_ret
            exact⟨rfl,HF.out⟩
          · rw[hw]
            clear hfi hb5 hp5 hL5 hk5 hid5 hw Hcase
            go_wp2
            go_ret
            exact⟨rfl,HF.out⟩
        · have hm:=Hid0.out
          rw[<-Hids.out] at hm
          obtain⟨k,hk,e⟩:=List.mem_map.1 hm
          exact absurd (by omega) (hno k hk)
  · rw[hup] at hu;cases hu
theorem rkG_filter {α:Type}(lane:α->Nat)(P:α->Bool)(q:List α)(L:Nat):rkG lane (q.filter P) L=(rkG lane q L).filter P:=by
  unfold rkG
  rw[List.filter_flatMap]
  congr 1
  funext l
  rw[List.filter_filter,List.filter_filter]
  congr 1
  funext x
  rw[Bool.and_comm]
theorem jobsOf_tick (now:Nat):∀(l:List Sm) (acc:List Nat),jobsOf (l.map λx=>if x.due now then x.ends false 0 else x) acc=(jobsOf l acc).filter λy=>decide (now<y.2.1)
  |[],_=>by simp[jobsOf]
  |x::l,acc=>by
    rw[List.map_cons]
    unfold jobsOf
    have hl:(if x.due now then x.ends false 0 else x).l=x.l:=by
      split
      · exact ends_l _ _ _
      · rfl
    rw[hl,jobsOf_tick now l,List.filter_append]
    congr 1
    unfold Sm.due
    cases e:x.job with
    |none=>simp[e]
    |some j=>
      by_cases hd:j.til<=now
      · have:¬now<j.til:=by omega
        simp[hd,this,Sm.ends]
      · have:now<j.til:=by omega
        simp[hd,this,e]
theorem Ts.tick_jobs (s:Ts)(n:Nat):(s.tick n).jobs=s.jobs.filter λy=>decide (s.now+n<y.2.1):=by
  unfold Ts.jobs
  rw[<-rkG_filter,<-jobsOf_tick (s.now+n) s.segs []]
  rfl
theorem Ts.Inv.jobs_ne {c:Cfg}{s:Ts}(h:s.Inv c):s.jobs.Pairwise λa b=>a.1≠b.1:=
  (List.Perm.pairwise_iff (fun {a b} (h:a.1≠b.1)=>λe=>h e.symm) h.jobs_perm).2 (jobs_nd s.segs [] h.jobs)
def goneD (now k:Nat)(js:List Jbt)(n:Nat):Bool:=(js.take k).any λy=>y.1==n&&decide (y.2.1<=now)
theorem goneD_zero (now:Nat)(js:List Jbt):goneD now 0 js=λ_=>false:=by funext n;simp[goneD]
theorem goneD_succ {now k:Nat}{js:List Jbt}(hk:k<js.length)(n:Nat):goneD now (k+1) js n=(goneD now k js n||(js[k].1==n&&decide (js[k].2.1<=now))):=by
  unfold goneD
  rw[List.take_succ_eq_append_getElem hk,List.any_append];simp
theorem setHow_none (h:Nat)(js:List Eo):setHow (λ_=>false) h js=js:=by simp[setHow]
theorem setHow_two (D D':Nat->Bool)(h:Nat)(js:List Eo):setHow D' h (setHow D h js)=setHow (λn=>D n||D' n) h js:=by
  unfold setHow
  rw[List.map_map]
  refine List.map_congr_left λe _=>?_
  simp only[Function.comp]
  by_cases h1:D e.num=true
  · by_cases h2:D' e.num=true<;>simp[h1,h2]
  · by_cases h2:D' e.num=true<;>simp[h1,h2]
theorem setHow_congr {D D':Nat->Bool}{h:Nat}{js:List Eo}(e:∀n,D n=D' n):setHow D h js=setHow D' h js:=by rw[show D=D' from funext e]
theorem goneD_all {c:Cfg}{s:Ts}(hI:s.Inv c)(now n:Nat):goneD now s.jobs.length s.jobs n=dueD s.segs now n:=by
  unfold goneD
  rw[List.take_length,Bool.eq_iff_iff,dueD_iff,List.any_eq_true]
  constructor
  · rintro⟨y,hy,h⟩
    obtain⟨x,hx,j,hj,e1,e2,_⟩:=hI.job_for hy
    simp only[Bool.and_eq_true,beq_iff_eq,decide_eq_true_eq] at h
    exact⟨x,hx,j,hj,by omega,by omega⟩
  · rintro⟨x,hx,j,hj,h1,h2⟩
    obtain⟨y,hy,e⟩:=hI.job_has hx hj
    refine⟨y,hy,?_⟩
    obtain⟨x',hx',j',hj',e1,e2,_⟩:=hI.job_for hy
    obtain rfl:=job_inj hI.jobs hx' hx hj' hj (by omega)
    rw[hj] at hj'
    cases hj'
    simp only[Bool.and_eq_true,beq_iff_eq,decide_eq_true_eq]
    exact⟨by omega,by omega⟩
theorem kept_at {js:List Jbt}{now k:Nat}(hk:k<js.length)(hkeep:now<js[k].2.1):(js.filter λy=>decide (now<y.2.1))[(js.take k).countP λy=>decide (now<y.2.1)]? =some js[k]:=by
  have e:js=js.take k++js[k]::js.drop (k+1):=by rw[<-List.drop_eq_getElem_cons hk,List.take_append_drop]
  have e2:(js.filter λy=>decide (now<y.2.1))=(js.take k).filter (λy=>decide (now<y.2.1))++js[k]::(js.drop (k+1)).filter λy=>decide (now<y.2.1):=by
    conv=>lhs;rw[e]
    rw[List.filter_append,List.filter_cons,if_pos (by simpa using hkeep)]
  rw[e2,List.countP_eq_length_filter,List.getElem?_append_right (Nat.le_refl _),Nat.sub_self];rfl
theorem gone_at {js:List Jbt}{now k:Nat}(hk:k<js.length)(hgone:¬now<js[k].2.1)(hne:js.Pairwise λa b=>a.1≠b.1){y:Jbt}(hy:(js.filter λy=>decide (now<y.2.1))[(js.take k).countP λy=>decide (now<y.2.1)]? =some y):y.1≠js[k].1:=by
  have e:js=js.take k++js[k]::js.drop (k+1):=by rw[<-List.drop_eq_getElem_cons hk,List.take_append_drop]
  have e2:(js.filter λy=>decide (now<y.2.1))=(js.take k).filter (λy=>decide (now<y.2.1))++(js.drop (k+1)).filter λy=>decide (now<y.2.1):=by
    conv=>lhs;rw[e]
    rw[List.filter_append,List.filter_cons,if_neg (by simpa using hgone)]
  rw[e2,List.countP_eq_length_filter,List.getElem?_append_right (Nat.le_refl _),Nat.sub_self] at hy
  have hm:y∈js.drop (k+1):=(List.mem_filter.1 (List.mem_of_getElem? hy)).1
  rw[e,List.pairwise_append] at hne
  exact λh=>(List.pairwise_cons.1 hne.2.1).1 y hm h.symm
theorem count_step {js:List Jbt}{now k:Nat}(hk:k<js.length):(js.take (k+1)).countP (λy=>decide (now<y.2.1))=(js.take k).countP (λy=>decide (now<y.2.1))+if now<js[k].2.1 then 1 else 0:=by
  rw[List.take_succ_eq_append_getElem hk,List.countP_append,List.countP_singleton]
  simp
theorem Gd.tick {c:Cfg}{σ:Sg}{p:Pe}{n:Nat}(hG:Gd c σ p)(hc:c.Ok)(hn:1<=n/\n<=1000):
    TickErr (n:Int) 0/\∃σ',σ.tick n 0=(0,σ')/\σ'.Ok c g0/\σ'.ts c=(σ.ts c).tick n/\σ'.rs.length=σ.rs.length+1/\Gd c σ' {p with jobs:=setHow (dueD (σ.ts c).segs ((σ.ts c).now+n)) 2 p.jobs,now:=p.now+n}:=by
  have hI:(σ.ts c).Inv c:=(hG.g.ok.fits.inv hc).1
  have hT:TickErr (n:Int) 0:=.inl ⟨by omega,rfl⟩
  have hcan:=(tick_can (c:=c) (s:=σ.ts c) hT rfl).1
  have hact:σ.tick n 0=(0,{σ with rs:=σ.rs++[⟨5,0,n,false,[]⟩]}):=Sg.act_ok hG.g.up hG.g.br
  have hts:({σ with rs:=σ.rs++[⟨5,0,n,false,[]⟩]}:Sg).ts c=(σ.ts c).tick n:=by
    have:=ts_snoc (c:=c) (r:=⟨5,0,n,false,[]⟩) hG.g.up hG.g.br
    rw[Sg.act_ok hG.g.up hG.g.br] at this
    exact this.trans (does5 c _ _)
  have hok:(σ.tick n 0).2.Ok c g0:=hG.g.ok.act hc λ_=>hcan
  rw[hact] at hok
  refine⟨hT,_,hact,hok,hts,by simp,?_⟩
  exact hG.ends (σ':={σ with rs:=σ.rs++[⟨5,0,n,false,[]⟩]}) hok hG.g.up hG.g.br (λm hm=>by
    obtain⟨x,hx,j,hj,h1,_⟩:=dueD_iff.1 hm
    exact⟨x,hx,j,hj,h1⟩) (.inr rfl) (by rw[hts];rfl) (by rw[hts];rfl) (by rw[hts];rfl) (by rw[hts];exact tick_endD hI.jobs n) (by rw[hts];rfl) (by rw[hts];rfl) (by rw[hts];rfl) (by rw[hts];rfl) (by rw[hts,hG.g.now];rfl)
def TkAt (w wr:World)(R V:Nat->Prop)(pb xb:Nat)(c:Cfg)(p:Pe)(now i:Nat)(J:List Jbt):Prop:=∃v,PlIs wr R V pb xb c {p with jobs:=setHow (goneD now i J) 2 p.jobs} v/\Only w wr V
theorem TkAt.keep {w wr w':World}{R V:Nat->Prop}{pb xb:Nat}{c:Cfg}{p:Pe}{now i:Nat}{J:List Jbt}(h:TkAt w wr R V pb xb c p now i J)(hb:Below wr.heap.size wr w')(hi:i<J.length)(hk:now<J[i].2.1):TkAt w w' R V pb xb c p now (i+1) J:=by
  obtain⟨v,hL,hO⟩:=h
  refine⟨v,?_,hO.trans (Only.of_below (S:=V) hb) λ_ h=>.inl h⟩
  rw[setHow_congr (D':=goneD now i J) λn=>by
    rw[goneD_succ hi,decide_eq_false (by omega),Bool.and_false,Bool.or_false]]
  exact hL.later hb
theorem TkAt.start {w wr w':World}{R V:Nat->Prop}{pb xb:Nat}{c:Cfg}{p:Pe}{now i:Nat}{J:List Jbt}(h:TkAt w wr R V pb xb c p now i J)(hb:Below wr.heap.size wr w')(D:Nat->Bool):MkAt w w' R V pb xb c {p with jobs:=setHow (goneD now i J) 2 p.jobs} D 2 0:=by
  obtain⟨v,hL,hO⟩:=h
  exact⟨v,by rw[mixH_zero];exact hL.later hb,hO.trans (Only.of_below (S:=V) hb) λ_ h=>.inl h⟩
theorem TkAt.done {w wr:World}{R V:Nat->Prop}{pb xb:Nat}{c:Cfg}{p:Pe}{now i:Nat}{J:List Jbt}(hi:i<J.length)(hk:¬now<J[i].2.1)(h:MkAt w wr R V pb xb c {p with jobs:=setHow (goneD now i J) 2 p.jobs} (λn=>n==J[i].1) 2 (setHow (goneD now i J) 2 p.jobs).length):TkAt w wr R V pb xb c p now (i+1) J:=by
  obtain⟨v,hL,hO⟩:=h
  refine⟨v,?_,hO⟩
  have e:setHow (goneD now (i+1) J) 2 p.jobs=mixH (λn=>n==J[i].1) 2 (setHow (goneD now i J) 2 p.jobs).length (setHow (goneD now i J) 2 p.jobs):=by
    rw[mixH_all,setHow_two]
    refine setHow_congr λn=>?_
    rw[goneD_succ hi,decide_eq_true (by omega),Bool.and_true]
    congr 1
    rw[Bool.eq_iff_iff,beq_iff_eq,beq_iff_eq]
    exact eq_comm
  rw[e];exact hL
theorem MkAt.later {w wr w':World}{R V:Nat->Prop}{pb xb:Nat}{c:Cfg}{p:Pe}{D:Nat->Bool}{h k:Nat}(hM:MkAt w wr R V pb xb c p D h k)(hb:Below wr.heap.size wr w'):MkAt w w' R V pb xb c p D h k:=by
  obtain⟨v,hL,hO⟩:=hM
  exact⟨v,hL.later hb,hO.trans (Only.of_below (S:=V) hb) λ_ h=>.inl h⟩
structure Rows2 (W:World)(js js2:List Jv)(v1 v2:Value):Prop where
  a:Sl W 124 4 v1 js.length (js.flatMap cJv)
  b:Sl W 124 4 v2 js2.length (js2.flatMap cJv)
structure Tickd (c:Cfg)(σ σ':Sg)(n:Nat):Prop where
  ts:σ'.ts c=(σ.ts c).tick n
  bud:Go.Proofs.YtgamgomepdfgdaaGreat.bud c σ'<=Go.Proofs.YtgamgomepdfgdaaGreat.bud c σ+1
theorem pl_tick (U:Nat->Prop)(pb xb:Nat)(c:Cfg)(σ:Sg)(p:Pe)(n:Nat)(w:World)(h:Pp w U pb xb c σ p)(hG:Gd c σ p)(hc:c.Ok)(hn:bud c σ+1<1048576)(hn1:1<=n/\n<=1000):
    Calls prog 62 #[.pointer (some ⟨pb,0,none⟩),.int .i64 n] w λe w'=>e=.returned (.bool true)/\∃σ' p' U',Pp w' U' pb xb c σ' p'/\Grows w w' U U'/\(Gd c σ' p'/\p'.known=p.known)/\Tickd c σ σ' n:=by
  have hrs:σ.rs.length+1<1048576:=by unfold bud at hn;omega
  obtain⟨s1,s2,s3,s4,s5,s6⟩:=hG.g.small hc (by omega)
  have hI:(σ.ts c).Inv c:=(hG.g.ok.fits.inv hc).1
  have hnow:(σ.ts c).now<=1000*σ.rs.length:=(hG.g.ok.fits.inv hc).2.now
  obtain⟨hT,σ',hact,hok,hts,hl1,hG'⟩:=hG.tick hc hn1
  have hj:=h.ask λX hX=>pJobs X xb c σ 0 g0 w hX hG.g.ok hc (by omega) (by omega)
  have HTk:Hid (∀W U1,Pp W U1 pb xb c σ p->Calls prog 46 #[.pointer (some ⟨xb,0,none⟩),.int .i64 n] W λe w'=>e=.returned (.int .i64 0)/\∃U',Pp w' U' pb xb c σ' p/\Grows W w' U1 U'):=λW U1 hW=>by
    have:=hW.call (a:=σ.tick n 0) λX hX _=>pTick X xb c σ 0 g0 n 0 W hX hG.g.ok hc (by omega) hT
    rw[hact] at this
    exact this
  have HJ2:Hid (∀W U1 q,Pp W U1 pb xb c σ' q->Calls prog 70 #[.pointer (some ⟨xb,0,none⟩)] W λe w'=>ProgJobs W w' e c g0 0 σ'/\Below W.heap.size W w'/\Pp w' U1 pb xb c σ' q):=λW U1 q hW=>hW.ask λX hX=>pJobs X xb c σ' 0 g0 W hX hok hc (by omega) (by omega)
  have hbud:bud c σ'=bud c σ+1:=by
    unfold bud
    rw[hts,hl1]
    show σ.rs.length+1+((σ.ts c).ids.length-(σ.ts c).acked)=_
    omega
  have hpn:p.now=(σ.ts c).now:=hG.g.now
  have HJt:Hid ((σ'.ts c).jobs=(σ.ts c).jobs.filter λy=>decide (p.now+n<y.2.1)):=by show _=_;rw[hts,Ts.tick_jobs,hpn]
  have HFin:Hid (∀q,q={p with jobs:=setHow (goneD (p.now+n) (σ.ts c).jobs.length (σ.ts c).jobs) 2 p.jobs,now:=p.now+n}->(Gd c σ' q/\q.known=p.known)/\Tickd c σ σ' n):=λq hq=>by
    subst hq
    refine⟨⟨?_,rfl⟩,hts,by omega⟩
    rw[setHow_congr λm=>by rw[goneD_all hI,hpn]]
    exact hG'
  have Hne:=hd' hI.jobs_ne
  have hfew:=hI.jobs_few
  have hup:=hG.g.up
  have hup':σ'.up=true:=hG'.g.up
  have b0:=h.cell.1
  have HUl:Hid (∀k,U k->k<w.heap.size):=h.lt
  have hpnb:p.now<1048576000:=by omega
  generalize hJe:(σ.ts c).jobs=J at *
  have HJe:=hd' hJe
  clear hJe
  clear h hG hI hnow hT hact hok hts hl1 hG' hn s1 s3 s4 s5 s6 hbud hpn
  go_enter func62,ntmps62
  go_wp2_with fail
  refine hj.mono ?_
  rintro e w1 ⟨hJ,hb1,hp1⟩
  rcases hJ with ⟨_,jv,js,rfl,hfst,hOut⟩|⟨hu,_⟩
  · obtain⟨ja,jc,rfl⟩:=(Sl.of_row hOut.row).form
    have Hfst:Hid (js.map Prod.fst=J):=by show _=_;rw[<-HJe.out];exact hfst
    have HOut:=hd' hOut.row
    have Hb1:=hd' hb1
    have b1:=hp1.cell.1
    have htk:=HTk.out w1 U hp1
    clear hj hfst hOut hb1 hp1 b0 HTk HJe
    go_wp2_with fail
    refine htk.mono ?_
    rintro _ w2 ⟨rfl,U2,hp2,hg2⟩
    obtain⟨X,R,V,v,hP2,hL2,hap2,hU2⟩:=hp2.ex
    have c13:=hp2.cell.2.2.2.1
    have f13:=hp2.cell.2.2.2.2
    have hput:=hL2.putNow (p.now+n)
    obtain⟨U3,hp3,hg3⟩:=Pp.went hP2 hap2 hU2 (⟨⟨R,V,v,hput,λ_ h=>.inl h,λ_ h=>.inl h⟩,Only.set (Only.refl _ _) (.inl hL2.vs.1)⟩:PlGo w2 _ R V pb xb c _)
    have ecast:(((p.now+n:Nat):Int))=(p.now:Int)+(n:Int):=by omega
    rw[ecast] at hp3 hg3
    have Hg3:Hid (Grows w1 (w2.setCell ⟨pb,13,none⟩ (.int .i64 ((p.now:Int)+(n:Int)))) U U3):=hg2.trans hg3
    have Hp3:=hd' hp3
    have b3:=hp3.cell.1
    clear htk b1 hp2 hg2 hP2 hL2 hap2 hU2 hput hg3 hp3 ecast
    go_wp2_with fail
    generalize w2.setCell ⟨pb,13,none⟩ (.int .i64 ((p.now:Int)+(n:Int)))=w3 at *
    have hj2:=HJ2.out w3 U3 _ Hp3.out
    clear c13 f13 HJ2
    refine hj2.mono ?_
    rintro e w4 ⟨hJ2,hb4,hp4⟩
    rcases hJ2 with ⟨_,jv2,js2,rfl,hfst2,hOut2⟩|⟨hu,_⟩
    · obtain⟨ja2,jc2,rfl⟩:=(Sl.of_row hOut2.row).form
      have Hfst2:Hid (js2.map Prod.fst=J.filter λy=>decide (p.now+n<y.2.1)):=by show _=_;rw[<-HJt.out];exact hfst2
      obtain⟨X,R,V,v,hP4,hL4,hap4,hU4⟩:=hp4.ex
      have Hg4:Hid (Grows w w4 U U3):=(Grows.from_below Hb1.out Hg3.out).trans (Grows.of_below hb4)
      have hV3:∀q,V q->U3 q:=λq hq=>hU4 q (.inr (.inr hq))
      have hra:Sl w4 124 4 (.slice ja js.length jc) js.length (js.flatMap cJv):=(Sl.of_row HOut.out).kept λq e=>by
        have h1:=World.ownsRow.lt HOut.out q e
        exact(hb4.block q (Nat.lt_of_lt_of_le h1.2 Hg3.out.only.size)).trans (Hg3.out.only.block q h1.2 λhU=>by have:=HUl.out q hU;omega)
      have HR:Hid (∀W,Only w4 W V->Rows2 W js js2 (.slice ja js.length jc) (.slice ja2 js2.length jc2)):=λW hW=>by
        refine⟨hra.kept λq e=>hW.block q (hra.lt e) λhV=>?_,(Sl.of_row hOut2.row).kept λq e=>hW.block q (World.ownsRow.lt hOut2.row q e).2 λhV=>?_⟩
        · have h1:=World.ownsRow.lt HOut.out q e
          rcases Hg3.out.sub q (hV3 q hV) with h|h
          · have:=HUl.out q h;omega
          · omega
        · have h1:=World.ownsRow.lt hOut2.row q e
          have:=Hp3.out.lt q (hV3 q hV)
          omega
      have HX4:Hid (ProgIs w4 X xb c σ' 0 g0/\(∀k,X k->¬R k/\¬V k)/\∀k,X k\/R k\/V k->U3 k):=⟨hP4,hap4,hU4⟩
      have H0:Hid (TkAt w4 w4 R V pb xb c {p with now:=p.now+n} (p.now+n) 0 J):=⟨v,by rw[goneD_zero,setHow_none];exact hL4,Only.refl _ _⟩
      have Hend:Hid (∀W,TkAt w4 W R V pb xb c {p with now:=p.now+n} (p.now+n) J.length J->∃σ' p' U',Pp W U' pb xb c σ' p'/\Grows w W U U'/\(Gd c σ' p'/\p'.known=p.known)/\Tickd c σ σ' n):=λW hW=>by
        obtain⟨v',hL,hO⟩:=hW
        obtain⟨U9,hp9,hg9⟩:=Pp.went HX4.out.1 HX4.out.2.1 HX4.out.2.2 (⟨⟨R,V,v',hL,λ_ h=>.inl h,λ_ h=>.inl h⟩,hO⟩:PlGo w4 W R V pb xb c _)
        exact⟨σ',_,U9,hp9,Hg4.out.trans hg9,HFin.out _ rfl⟩
      have hJl:js.length=J.length:=by rw[<-Hfst.out,List.length_map]
      have HJl:=hd' hJl
      have hjs:js.length<=8:=by omega
      have Hc2:Hid (js2.length=J.countP λy=>decide (p.now+n<y.2.1)):=by
        show _=_
        have h1:=congrArg List.length Hfst2.out
        rw[List.length_map] at h1
        rw[h1,List.countP_eq_length_filter]
      have hjs2:js2.length<=8:=by
        have h1:=Hc2.out
        have h2:=List.countP_le_length (p:=λy:Jbt=>decide (p.now+n<y.2.1)) (l:=J)
        omega
      clear hj2 hb4 hp4 b3 hfst2 hOut2 hP4 hL4 hap4 hU4 hV3 hra Hp3 Hg3 HUl HOut hJl hfew HJt HFin
      go_wp2_with fail
      go_loopw [10,11] (λav iv wr=>∃i a:Nat,i<=js.length/\iv=.int .i64 i/\av=.int .i64 a/\a<=i/\Hid (a=(J.take i).countP λy=>decide (p.now+n<y.2.1))/\Hid (TkAt w4 wr R V pb xb c {p with now:=p.now+n} (p.now+n) i J)) (λ_ iv _=>js.length-(intOf iv).toNat)
      case atStart=>exact⟨0,0,Nat.zero_le _,rfl,rfl,Nat.le_refl _,by show _=_;simp,H0⟩
      case round=>
        obtain⟨i,a,hi,rfl,rfl,hai,Ha,HT⟩:=hrel
        by_cases hlt:i<js.length
        · obtain⟨wo,hwo⟩:∃x,x=wr:=⟨wr,rfl⟩
          subst hwo
          obtain⟨v',hLv,hOv⟩:=HT.out
          obtain⟨hr1,hr2⟩:=HR.out wo hOv
          have hltJ:i<J.length:=by rw[<-HJl.out];exact hlt
          have hji:js[i].1=J[i]:=by simp only[<-Hfst.out,List.getElem_map]
          obtain⟨g1,o1,c1,e1,_⟩:=hr1.addr (by omega)
          cases e1
          have j0:wo.cell? ⟨g1,o1+i*4,none⟩=some (.int .i64 (J[i].1:Nat)):=by rw[<-hji];exact hr1.at_ (f:=cJv) (λ_=>rfl) hlt 0 rfl
          have j1:wo.cell? ⟨g1,o1+i*4+1,none⟩=some (.int .i64 (J[i].2.1:Nat)):=by rw[<-hji];exact hr1.at_ (f:=cJv) (λ_=>rfl) hlt 1 rfl
          have c13:wo.cell? ⟨pb,13,none⟩=some (.int .i64 ((p.now+n:Nat):Int)):=hLv.bx.cell (i:=13) rfl
          have hstep:=count_step (now:=p.now+n) hltJ
          by_cases hkeep:p.now+n<J[i].2.1
          · have hka:=kept_at hltJ hkeep
            rw[<-Ha.out,<-Hfst2.out,List.getElem?_map] at hka
            obtain⟨y,hya,hyb⟩:=Option.map_eq_some_iff.1 hka
            obtain⟨hal,hye⟩:=List.getElem?_eq_some_iff.1 hya
            obtain⟨g2,o2,c2,e2,_⟩:=hr2.addr (by omega)
            cases e2
            have k0:wo.cell? ⟨g2,o2+a*4,none⟩=some (.int .i64 (J[i].1:Nat)):=by rw[<-hyb,<-hye];exact hr2.at_ (f:=cJv) (λ_=>rfl) hal 0 rfl
            have HT2:Hid (∀W,Below wo.heap.size wo W->TkAt w4 W R V pb xb c {p with now:=p.now+n} (p.now+n) (i+1) J):=λW hW=>HT.out.keep hW hltJ hkeep
            have Ha2:Hid (a+1=(J.take (i+1)).countP λy=>decide (p.now+n<y.2.1)):=by show _=_;rw[hstep,if_pos hkeep,<-Ha.out]
            have hda:decide ((a:Int)<(js2.length:Int))=true:=decide_eq_true (by omega)
            have hdt:decide (((p.now+n:Nat):Int)<(J[i].2.1:Nat))=true:=decide_eq_true (by omega)
            clear hka hya hyb hye hr1 hr2 hLv hOv hji hstep H0 Hc2 Hfst Hfst2 HX4
            generalize ((J[i].1:Nat):Int)=num at *
            generalize ((J[i].2.1:Nat):Int)=til at *
            generalize ((p.now+n:Nat):Int)=nw at c13 hdt
            go_wp2_with fail
            go_quiet (fail)
            go_wp2_with fail
            go_quiet (fail)
            go_wp2
            exact⟨⟨i+1,a+1,hlt,by go_num,by go_num,by omega,Ha2,by first|exact HT2.out _ (Drew.one _ _).below|exact HT2.out _ (Drew.two _ _ _).below⟩,by simp[intOf];omega⟩
          · have hgone:∀y,js2[a]? =some y->y.1.1≠J[i].1:=λy hy=>by
              refine gone_at hltJ hkeep Hne.out ?_
              rw[<-Ha.out,<-Hfst2.out,List.getElem?_map,hy];rfl
            have Ha2:Hid (a=(J.take (i+1)).countP λy=>decide (p.now+n<y.2.1)):=by show _=_;rw[hstep,if_neg hkeep,<-Ha.out];rfl
            have hdt:decide (((p.now+n:Nat):Int)<(J[i].2.1:Nat))=false:=decide_eq_false (by omega)
            have HMs:Hid (∀W,Below wo.heap.size wo W->MkAt w4 W R V pb xb c {p with now:=p.now+n,jobs:=setHow (goneD (p.now+n) i J) 2 p.jobs} (λn=>n==J[i].1) 2 0):=λW hW=>HT.out.start hW _
            have HMd:Hid (∀W,MkAt w4 W R V pb xb c {p with now:=p.now+n,jobs:=setHow (goneD (p.now+n) i J) 2 p.jobs} (λn=>n==J[i].1) 2 (setHow (goneD (p.now+n) i J) 2 p.jobs).length->TkAt w4 W R V pb xb c {p with now:=p.now+n} (p.now+n) (i+1) J):=λW hW=>TkAt.done hltJ hkeep hW
            have Hcn:Hid (∀W,Only w4 W V->W.cell? ⟨g1,o1+i*4,none⟩=some (.int .i64 (J[i].1:Nat))):=λW hW=>by rw[<-hji];exact(HR.out W hW).a.at_ (f:=cJv) (λ_=>rfl) hlt 0 rfl
            have hsl:(setHow (goneD (p.now+n) i J) 2 p.jobs).length=p.jobs.length:=by unfold setHow;rw[List.length_map]
            have hc2:(∃g2 o2 z,ja2=some ⟨g2,o2,none⟩/\a<js2.length/\wo.cell? ⟨g2,o2+a*4,none⟩=some (.int .i64 z)/\(z==((J[i].1:Nat):Int))=false)\/¬a<js2.length:=by
              by_cases hal:a<js2.length
              · obtain⟨g2,o2,c2,e2,_⟩:=hr2.addr (by omega)
                cases e2
                refine .inl ⟨g2,o2,(js2[a].1.1:Nat),rfl,hal,hr2.at_ (f:=cJv) (λ_=>rfl) hal 0 rfl,beq_false_of_ne λe=>hgone js2[a] (List.getElem?_eq_getElem hal) (by omega)⟩
              · exact .inr hal
            clear hgone hr1 hr2 hLv hOv hji hstep H0 Hc2 Hfst Hfst2 HX4 HT
            generalize hnum:J[i].1=num at *
            clear hnum
            generalize ((J[i].2.1:Nat):Int)=til at *
            generalize hnw:((p.now+n:Nat):Int)=nw at c13 hdt
            clear hnw
            generalize hPj:setHow (goneD (p.now+n) i J) 2 p.jobs=pj at *
            clear hPj
            go_wp2_with fail
            go_cut [12] from 61 to 123 (λt wz=>t=.bool false/\Below wo.heap.size wo wz)
            case first=>
              rcases hc2 with ⟨g2,o2,z,rfl,hal,cz,hzn⟩|hal
              · have hda:decide ((a:Int)<(js2.length:Int))=true:=decide_eq_true (by omega)
                go_quiet (fail)
                go_wp2_with fail
                go_meet
                case rel=>exact⟨rfl,(Drew.one _ _).below⟩
              · have hda:decide ((a:Int)<(js2.length:Int))=false:=decide_eq_false (by omega)
                go_quiet (fail)
                go_wp2_with fail
                go_meet
                case rel=>exact⟨rfl,(Drew.one _ _).below⟩
            case rest=>
              obtain⟨rfl,hbz⟩:=hcut
              rename World=>wz
              have x1:=below_ce hbz j1
              have x13:=below_ce hbz c13
              have Hbz:=hd' hbz
              clear j0 j1 c13 hc2 hbz
              go_wp2_with fail
              go_quiet (fail)
              have hbq:Below wo.heap.size wo (wz.drewN nq):=Hbz.out.trans ((Drew.one wz nq).below.mono Hbz.out.size)
              have HM0:=hd' (HMs.out _ hbq)
              clear x1 x13 Hbz hbq HMs
              generalize wz.drewN nq=wq at *
              go_wp2_with fail
              go_loopw [13] (λkv wr=>∃k:Nat,k<=pj.length/\kv=.int .i64 k/\Hid (MkAt w4 wr R V pb xb c {p with now:=p.now+n,jobs:=pj} (λn=>n==num) 2 k)) (λkv _=>pj.length-(intOf kv).toNat)
              case atStart=>exact⟨0,Nat.zero_le _,rfl,HM0⟩
              case round=>
                obtain⟨k,hk,rfl,HM⟩:=hrel
                obtain⟨jx,jcx,c9,hfa⟩:=HM.out.facts
                obtain⟨_,_,hOm⟩:=HM.out
                have cn:=Hcn.out wr hOm
                clear HM0
                by_cases hlk:k<pj.length
                · obtain⟨gx,ox,rfl,k0,_⟩:=hfa hlk
                  have Hq1:Hid (((pj[k].num:Int)==(num:Int))=false->∀W,Below wr.heap.size wr W->MkAt w4 W R V pb xb c {p with now:=p.now+n,jobs:=pj} (λn=>n==num) 2 (k+1)):=λhq W hW=>by
                    obtain⟨_,_,_,hfb⟩:=(HM.out.later hW).facts
                    obtain⟨_,_,_,_,_,_,_,_,_,hno⟩:=hfb hlk
                    exact hno (by simp only[beq_eq_false_iff_ne] at hq ⊢;show pj[k].num≠num;omega)
                  have Hq2:Hid (((pj[k].num:Int)==(num:Int))=true->∀W,Below wr.heap.size wr W->∃jx jcx gy oy u4,W.cell? ⟨pb,9,none⟩=some (.slice jx pj.length jcx)/\jx=some ⟨gy,oy,none⟩/\W.cell? ⟨gy,oy+k*6+4,none⟩=some u4/\W.frozen? ⟨gy,oy+k*6+4,none⟩=false/\MkAt w4 (W.setCell ⟨gy,oy+k*6+4,none⟩ (.int .i64 2)) R V pb xb c {p with now:=p.now+n,jobs:=pj} (λn=>n==num) 2 (k+1)):=λhq W hW=>by
                    obtain⟨jx,jcx,d9,hfb⟩:=(HM.out.later hW).facts
                    obtain⟨gy,oy,e1,_,⟨u4,k4⟩,f4,_,_,hyes,_⟩:=hfb hlk
                    exact⟨jx,jcx,gy,oy,u4,d9,e1,k4,f4,(hyes (by simp only[beq_iff_eq] at hq ⊢;show pj[k].num=num;omega)).1⟩
                  clear hfa hOm HM
                  have c9':wr.cell? ⟨pb,9,none⟩=some (.slice (some ⟨gx,ox,none⟩) pj.length jcx):=c9
                  have k0':wr.cell? ⟨gx,ox+k*6,none⟩=some (.int .i64 ((pj[k].num:Nat):Int)):=k0
                  clear c9 k0
                  generalize ((pj[k].num:Nat):Int)=z at *
                  cases hq:(z==(num:Int))
                  · have Hn:=hd' (Hq1.out hq)
                    clear Hq1 Hq2
                    go_wp2_with fail
                    go_quiet (fail)
                    go_wp2
                    exact⟨⟨k+1,hlk,by go_num,Hn.out _ (Drew.one _ _).below⟩,by simp[intOf];omega⟩
                  · have Hy:=hd' (Hq2.out hq)
                    clear Hq1 Hq2
                    go_wp2_with fail
                    go_quiet (fail)
                    obtain⟨jy,jcy,gy,oy,u4,d9,rfl,k4,f4,hM2⟩:=Hy.out _ (Drew.one wr nq).below
                    have HM2:=hd' hM2
                    clear Hy c9' k0' cn hM2
                    generalize wr.drewN nq=wy at *
                    go_wp2
                    exact⟨⟨k+1,hlk,by go_num,HM2⟩,by simp[intOf];omega⟩
                · have e:k=pj.length:=by omega
                  have HT2:=hd' (HMd.out wr (by rw[<-e];exact HM.out))
                  clear hfa hOm HM e
                  go_wp2
                  go_roundw
                  case rel=>exact⟨i+1,a,hlt,by go_num,rfl,by omega,Ha2,HT2⟩
                  case measure=>simp[intOf];omega
        · have e:i=J.length:=by have:=HJl.out;omega
          have hac:a=js2.length:=by rw[Hc2.out,Ha.out,e,List.take_length]
          have HF:=hd' (Hend.out wr (by rw[<-e];exact HT.out))
          subst hac
          clear HT H0 e
          go_wp2
          go_ret
          exact⟨rfl,HF.out⟩
    · rw[hup'] at hu;cases hu
  · rw[hup] at hu;cases hu
end Go.Proofs.YtgamgomepdfgdaaGreat
