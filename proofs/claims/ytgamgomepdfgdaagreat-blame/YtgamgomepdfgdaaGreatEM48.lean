import Derived.Test.YtgamgomepdfgdaaGreatEM47
import Derived.Test.YtgamgomepdfgdaaGreatEM41
set_option maxRecDepth 100000
set_option maxHeartbeats 8000000
namespace Go.Proofs.YtgamgomepdfgdaaGreat
open Go.RowKit Go.Proofs.Tryz
theorem Gd.kind_in {c:Cfg}{σ:Sg}{p:Pe}(h:Gd c σ p){k:Kn}(hk:k∈p.known):(∃o∈(σ.ts c).outs,o.1=k.id/\k.kind=o.2)\/(k.id∈(σ.ts c).rest/\k.kind=0):=by
  have hm:k.id∈(σ.ts c).ids:=by rw[<-h.g.pos.ids];exact List.mem_map_of_mem hk
  have hkd:=h.g.pos.kinds k hk
  rw[h.dr,List.take_length] at hkd
  by_cases ho:k.id∈(σ.ts c).outs.map Prod.fst
  · left
    obtain⟨o,ho,e⟩:=List.mem_map.1 ho
    refine⟨o,ho,e,?_⟩
    rw[hkd,<-e]
    exact kindOf_mem h.g.ev.outs_nd ho
  · right
    refine⟨?_,by rw[hkd];exact kindOf_not ho⟩
    rcases List.mem_append.1 (h.g.ev.perm.mem_iff.2 hm) with h1|h1
    · exact absurd h1 ho
    · unfold Ts.rest
      rcases List.mem_append.1 h1 with h1|h1
      · exact List.mem_append_right _ h1
      · exact List.mem_append_left _ h1
theorem Gd.open_ {c:Cfg}{σ:Sg}{p:Pe}(h:Gd c σ p)(hr:(σ.ts c).rest≠[]):∃k∈p.known,k.kind=0:=by
  obtain⟨i,l,e⟩:=List.exists_cons_of_ne_nil hr
  have hi:i∈(σ.ts c).rest:=by rw[e];exact List.mem_cons_self
  have hi2:i∈(σ.ts c).queue.map Ch.id++((σ.ts c).segs.flatMap Sm.l).map Prod.fst:=by
    unfold Ts.rest at hi
    rcases List.mem_append.1 hi with h1|h1
    · exact List.mem_append_right _ h1
    · exact List.mem_append_left _ h1
  have hm:i∈(σ.ts c).ids:=h.g.ev.perm.mem_iff.1 (List.mem_append_right _ hi2)
  have hno:i∉(σ.ts c).outs.map Prod.fst:=λho=>(List.nodup_append.1 ((h.g.ev.perm.nodup_iff).2 h.g.ev.nd)).2.2 i ho i hi2 rfl
  rw[<-h.g.pos.ids] at hm
  obtain⟨k,hk,rfl⟩:=List.mem_map.1 hm
  refine⟨k,hk,?_⟩
  rw[h.g.pos.kinds k hk,h.dr,List.take_length]
  exact kindOf_not hno
def decB (p:Pe):Bool:=p.known.all λk=>k.kind !=0
theorem Bz.decided {c:Cfg}{P:Nat->ByteArray}{bad:Nat->Bool}{n:Nat}{σ:Sg}{p:Pe}(h:Bz c P bad n (σ.ts c))(hG:Gd c σ p):decB p=(σ.ts c).rest.isEmpty:=by
  unfold decB
  cases hr:(σ.ts c).rest.isEmpty
  · rw[List.all_eq_false]
    obtain⟨k,hk,e⟩:=hG.open_ (λe=>by rw[e] at hr;cases hr)
    exact⟨k,hk,by rw[e];decide⟩
  · rw[List.isEmpty_iff] at hr
    rw[List.all_eq_true]
    intro k hk
    rcases hG.kind_in hk with ⟨o,ho,_,e⟩|⟨h1,_⟩
    · rw[e]
      rcases h.knd o ho with h2|h2
      · rw[h2];decide
      · rw[h2];split<;>decide
    · rw[hr] at h1;cases h1
theorem pl_decided (R V:Nat->Prop)(pb xb:Nat)(c:Cfg)(p:Pe)(v:Pv)(w:World)(h:PlIs w R V pb xb c p v)(hn:p.known.length<1099511627776):
    Calls prog 23 #[.pointer (some ⟨pb,0,none⟩)] w λe w'=>e=.returned (.bool (decB p))/\w'=w:=by
  have hl:v.ks.length=p.known.length:=by rw[<-h.ks,List.length_map]
  obtain⟨ka,kc,ekv⟩:=h.kr.form
  have hc:w.cell? ⟨pb,8,none⟩=some (.slice ka p.known.length kc):=by rw[<-hl,<-ekv];exact h.bx.cell (i:=8) rfl
  have HK:Hid (∀i (hi:i<p.known.length),∃g off,ka=some ⟨g,off,none⟩/\w.cell? ⟨g,off+i*3+1,none⟩=some (.int .i64 (p.known[i].kind:Nat))):=λi hi=>by
    have hiv:i<v.ks.length:=by omega
    have hkr:=h.kr
    rw[ekv] at hkr
    obtain⟨g,off,cap,e1,_⟩:=hkr.addr (by omega)
    cases e1
    refine⟨g,off,rfl,?_⟩
    have h0:w.cell? ⟨g,off+i*3+1,none⟩=some (.int .i64 ((v.ks[i]).1.kind:Nat)):=hkr.at_ (f:=cKn) (λ_=>rfl) hiv 1 rfl
    rw[h0]
    have:(v.ks[i]).1=p.known[i]:=by
      have e:(v.ks.map Prod.fst)[i]'(by rw[List.length_map];exact hiv)=p.known[i]:=by simp only[h.ks]
      rw[<-e,List.getElem_map]
    rw[this]
  clear h hl ekv
  go_enter func23,ntmps23
  go_wp2_with fail
  go_loopw [3] (λiv wr=>∃i:Nat,i<=p.known.length/\iv=.int .i64 i/\Hid ((p.known.take i).all (λk=>k.kind !=0)=true)/\wr=w) (λiv _=>p.known.length-(intOf iv).toNat)
  case atStart=>exact⟨0,Nat.zero_le _,rfl,rfl,rfl⟩
  case round=>
    obtain⟨i,hi,rfl,HA,ew⟩:=hrel
    have ew:wr=w:=ew
    subst ew
    by_cases hlt:i<p.known.length
    · obtain⟨g,off,rfl,c1⟩:=HK.out i hlt
      have Hs:=hd' (all_snoc (p:=λk:Kn=>k.kind !=0) hlt)
      cases hq:((p.known[i].kind:Int)==0)
      · have Hn:Hid ((p.known.take (i+1)).all (λk=>k.kind !=0)=true):=by
          show _=_
          have:(p.known[i].kind !=0)=true:=by simp only[beq_eq_false_iff_ne] at hq;rw[bne_iff_ne];omega
          rw[Hs.out,HA.out,this];rfl
        generalize ((p.known[i].kind:Nat):Int)=z at *
        clear Hs HK
        go_wp2
        exact⟨⟨i+1,hlt,by go_num,Hn,by first|exact rfl|exact trivial⟩,by simp[intOf];omega⟩
      · have Hn:Hid (decB p=false):=by
          show _=_
          unfold decB
          rw[List.all_eq_false]
          refine⟨p.known[i],List.getElem_mem hlt,?_⟩
          have:p.known[i].kind=0:=by simp only[beq_iff_eq] at hq;omega
          rw[this];decide
        generalize ((p.known[i].kind:Nat):Int)=z at *
        clear Hs HK
        go_wp2
        go_ret
        exact⟨by rw[Hn.out];rfl,by first|exact rfl|exact trivial⟩
    · have Hn:Hid (decB p=true):=by
        show _=_
        have:=HA.out
        rw[List.take_of_length_le (by omega)] at this
        exact this
      clear HK
      go_wp2
      go_ret
      exact⟨by rw[Hn.out];rfl,by first|exact rfl|exact trivial⟩
theorem Tn.decided {w W:World}{pb xb:Nat}{c:Cfg}{σ:Sg}{p:Pe}(h:Tn w W pb xb c σ p)(hn:p.known.length<1099511627776):
    Calls prog 23 #[.pointer (some ⟨pb,0,none⟩)] W λe w'=>e=.returned (.bool (decB p))/\w'=W:=by
  obtain⟨U,h1,h2,h3⟩:=h
  obtain⟨X,R,V,v,hP,hL,hap,hU⟩:=h1.ex
  exact pl_decided R V pb xb c p v W hL hn
structure BlS (c:Cfg)(P:Nat->ByteArray)(bad:Nat->Bool)(n:Nat)(σ:Sg)(p:Pe)(N B:Nat):Prop where
  gd:Gd c σ p
  bl:Bz c P bad n (σ.ts c)
  need:(σ.ts c).need c.retries<=N
  bud:Go.Proofs.YtgamgomepdfgdaaGreat.bud c σ<=B
def BlAt (w w':World)(pb xb:Nat)(c:Cfg)(P:Nat->ByteArray)(bad:Nat->Bool)(n N B:Nat)(d:Bool):Prop:=
  ∃σ p,Tn w w' pb xb c σ p/\BlS c P bad n σ p N B/\decB p=d/\((d=true/\(σ.ts c).rest=[])\/(d=false/\Tests c (σ.ts c)))
def VdAt (w w':World)(pb xb:Nat)(c:Cfg)(P:Nat->ByteArray)(bad:Nat->Bool)(n N B:Nat):Prop:=∃σ p,Tn w w' pb xb c σ p/\BlS c P bad n σ p N B
theorem Tn.known_few {w W:World}{pb xb:Nat}{c:Cfg}{σ:Sg}{p:Pe}(_:Tn w W pb xb c σ p)(hG:Gd c σ p)(hc:c.Ok){B:Nat}(hb:bud c σ<=B)(hB:B<1000000):p.known.length<1048576:=(hG.g.small hc (by unfold bud at hb;omega)).1
theorem bl_pump {w W:World}{pb xb:Nat}{c:Cfg}{P:Nat->ByteArray}{bad:Nat->Bool}{n N B:Nat}(h:VdAt w W pb xb c P bad n N B)(hc:c.Ok)(hB:B<1000000):
    Calls prog 19 #[.pointer (some ⟨pb,0,none⟩)] W λe w'=>e=.returned (.bool true)/\∃d,BlAt w w' pb xb c P bad n N (B+1) d:=by
  obtain⟨σ,p,⟨U,h1,h2,h3⟩,hS⟩:=h
  have hbd:=hS.bud
  refine(pl_pump U pb xb c σ p W h1 hS.gd hc (by omega)).mono ?_
  rintro e w' ⟨he,σ',p',U',g1,g2,g3,g4⟩
  obtain⟨f1,f2⟩:=far h2 h3 g2
  obtain⟨b1,b2,b3⟩:=hS.bl.pump (hS.gd.g.ok.fits.inv hc).1 hc
  obtain⟨d1,d2⟩:=b1.bones (s':=σ'.ts c) (by rw[g4.ts]) (by rw[g4.ts]) (by rw[g4.ts]) (by rw[g4.ts])
  have hr:(σ'.ts c).rest=((σ.ts c).pump c).rest:=by rw[g4.ts];rfl
  have hS':BlS c P bad n σ' p' N (B+1):=⟨g3,d1,by have:=hS.need;omega,by have:=g4.bud;omega⟩
  have hdec:=d1.decided g3
  rcases b3 with b3|b3
  · exact⟨he,true,σ',p',⟨U',g1,f1,f2⟩,hS',by rw[hdec,hr,b3];rfl,.inl ⟨rfl,by rw[hr,b3]⟩⟩
  · have hne:=(b1.busy b3).2
    refine⟨he,false,σ',p',⟨U',g1,f1,f2⟩,hS',?_,.inr ⟨rfl,?_⟩⟩
    · rw[hdec,hr]
      cases hq:((σ.ts c).pump c).rest with
      |nil=>exact absurd hq hne
      |cons _ _=>rfl
    · obtain⟨f,m,j,e1,e2⟩:=b3
      exact⟨f,m,j,by rw[g4.ts];exact e1,e2⟩
theorem bl_decided {w W:World}{pb xb:Nat}{c:Cfg}{P:Nat->ByteArray}{bad:Nat->Bool}{n N B:Nat}{d:Bool}(h:BlAt w W pb xb c P bad n N B d)(hc:c.Ok)(hB:B<1000000):
    Calls prog 23 #[.pointer (some ⟨pb,0,none⟩)] W λe w'=>e=.returned (.bool d)/\w'=W:=by
  obtain⟨σ,p,hT,hS,hd,_⟩:=h
  have:=hT.decided (by have:=hT.known_few hS.gd hc hS.bud hB;omega)
  rw[hd] at this
  exact this
theorem bl_verdict {w W:World}{pb xb:Nat}{c:Cfg}{P:Nat->ByteArray}{bl:List Bool}{ba:Option Addr}{bc:Nat}{n N B:Nat}(h:BlAt w W pb xb c P (badOf bl) n N B false)(hc:c.Ok)(hB:B<1000000)(hb:BoolsAt W ba bl)(hbl:bl.length<1048576):
    Calls prog 24 #[.pointer (some ⟨pb,0,none⟩),.slice ba bl.length bc] W λe w'=>e=.returned (.bool true)/\1<=N/\VdAt w w' pb xb c P (badOf bl) n (N-1) (B+1):=by
  obtain⟨σ,p,⟨U,h1,h2,h3⟩,hS,_,hd⟩:=h
  rcases hd with ⟨hd,_⟩|⟨_,f,m,j,e1,e2,e3,e4⟩
  · cases hd
  have hbd:=hS.bud
  refine(pl_verdict U pb xb c σ p bl ba bc f m j W h1 hS.gd hc (by omega) e1 e4 hb hbl).mono ?_
  rintro e w' ⟨he,σ',p',U',g1,g2,g3,g4⟩
  obtain⟨f1,f2⟩:=far h2 h3 g2
  obtain⟨b1,b2⟩:=hS.bl.answer (hS.gd.g.ok.fits.inv hc).1 e1 e2 e3 e4
  have hneed:=hS.need
  refine⟨he,by omega,σ',p',⟨U',g1,f1,f2⟩,g3,by rw[g4.ts];exact b1,by rw[g4.ts];omega,?_⟩
  unfold bud at hbd ⊢
  rw[g4.ts,g4.len]
  show σ.rs.length+1+((σ.ts c).ids.length-(σ.ts c).acked)<=_
  omega
theorem pe_ok {q:ByteArray}(h1:q.toList.isEmpty=false)(h2:q.size<=8):EditsOK (pe q):=by
  refine⟨by simp[pe],by simp[pe],λx hx=>?_,by unfold Apart;simp[pe]⟩
  rw[List.mem_singleton.1 hx]
  have hq:okFill q=true:=by
    unfold okFill okText
    rw[h1]
    simp[h2]
  show (okFill q&&okText ⟨#[]⟩&&okText ⟨#[120]⟩&& !((⟨#[]⟩:ByteArray).toList==(⟨#[120]⟩:ByteArray).toList))=true
  rw[hq]
  simp only[okText,Lib.toList_data]
  decide
theorem path_ok {k:Nat}(h:k<26):EditsOK (pe (pathB k)):=pe_ok (by rw[Lib.toList_data,pathB_data h];rfl) (by rw[pathB_size h];decide)
def pB (i:Nat):ByteArray:=pathB (i-1)
theorem pB_first {i:Nat}(h:i<=26):pB i≠fEd.1:=λe=>by
  unfold pB at e
  by_cases h0:i-1<26
  · have h1:=pathB_size h0
    rw[e] at h1
    exact absurd h1 (by decide)
  · omega
theorem pB_ne {i k:Nat}(h1:1<=i)(h2:i<k)(h3:k<=26):pB i≠pB k:=pathB_ne (by omega) (by omega)
theorem tip_first {q:ByteArray}(h:q≠fEd.1):edited g0 fE q=⟨#[]⟩:=by
  rw[edited_other λe he=>by rw[List.mem_singleton.1 he];exact λe=>h e.symm]
  rfl
def SubAt (w w':World)(pb xb:Nat)(c:Cfg)(bad:Nat->Bool)(k:Nat):Prop:=∃σ p,Tn w w' pb xb c σ p/\Gd c σ p/\Bz c pB bad k (σ.ts c)/\(σ.ts c).segs=[]/\(σ.ts c).outs=[(1000000,1)]/\(σ.ts c).tip=edited g0 fE/\(σ.ts c).queue.length=k/\bud c σ<=5+2*k
theorem SubAt.below {w w':World}{pb xb:Nat}{c:Cfg}{bad:Nat->Bool}{k:Nat}(h:SubAt w w' pb xb c bad k):Below w.heap.size w w':=by
  obtain⟨σ,p,hT,_⟩:=h
  exact hT.below
theorem sub_zero {w w':World}{pb xb:Nat}{c:Cfg}(bad:Nat->Bool)(h:StAt w w' pb xb c {fS4 with acked:=1} 5):SubAt w w' pb xb c bad 0:=by
  obtain⟨σ,p,U,h1,h2,h3,h4,h5,_,h7⟩:=h
  refine⟨σ,p,⟨U,h1,h2,h3⟩,h4,?_,by rw[h5];rfl,by rw[h5];rfl,by rw[h5];rfl,by rw[h5];rfl,h7⟩
  rw[h5]
  exact⟨rfl,λo ho=>.inl (List.mem_singleton.1 ho),λy hy=>(by cases hy),λx hx=>(by cases hx),λi hi=>(by cases hi),List.Pairwise.nil,λx m e=>(by cases e),λx hx=>(by cases hx)⟩
theorem sub_new {c:Cfg}{σ:Sg}{p:Pe}{bad:Nat->Bool}{k:Nat}(hG:Gd c σ p)(hB:Bz c pB bad k (σ.ts c))(hs:(σ.ts c).segs=[])(hk:k<1000):k+1∉(σ.ts c).ids:=λhm=>by
  have h1:=hG.g.ev.perm.mem_iff.2 hm
  have h2:k+1∈(σ.ts c).outs.map Prod.fst++(σ.ts c).rest:=by
    unfold Ts.rest
    rw[hs] at h1 ⊢
    simpa using h1
  rw[hB.ord] at h2
  rcases List.mem_cons.1 h2 with h2|h2
  · omega
  · rw[List.mem_range'_1] at h2
    omega
theorem bl_sub {w W W':World}{pb xb:Nat}{c:Cfg}{bad:Nat->Bool}{k b:Nat}(h:SubAt w W pb xb c bad k)(hk:k<c.queue)(hc:c.Ok)(hb:Below W.heap.size W W')(hE:EditsAt W' (.slice (some ⟨b,0,none⟩) 1 1) (pe (pathB k)))(hbb:W.heap.size<=b):
    Calls prog 21 #[.pointer (some ⟨pb,0,none⟩),.int .i64 ((k:Int)+1),.int .i64 0,.slice (some ⟨b,0,none⟩) 1 1] W' λe w'=>e=.returned (.bool true)/\SubAt w w' pb xb c bad (k+1):=by
  obtain⟨σ,p,⟨U,h1,h2,h3⟩,hG,hB,hs,ho,ht,hq,hbd⟩:=h
  have hq16:=hc.2.2.2.2.2.2.2
  have hnew:=sub_new hG hB hs (by omega)
  have hch:ChOK c ((k+1:Nat):Int) ((0:Nat):Int) (pe (pathB k)):=⟨by omega,by omega,by omega,by have:=hc.1.1;omega,path_ok (by omega)⟩
  have:=pl_submit U pb xb c σ p (k+1) 0 (pe (pathB k)) (some ⟨b,0,none⟩) 1 W' (h1.later hb) hG hc (by omega) hch hE (Nat.le_refl _) λg e=>by
    cases e
    intro hU
    have:=h1.lt b hU
    omega
  rw[show ((k+1:Nat):Int)=(k:Int)+1 from by omega] at this
  refine this.mono ?_
  rintro e w' ⟨he,σ',p',U',g1,g2,g3,g4⟩
  obtain⟨f1,f2⟩:=far (h2.trans (hb.mono h2.size)) h3 g2
  have hbd':=g4.bud
  rcases g4 with ⟨hno,_⟩|⟨_,_,hts,_,_⟩
  · rcases hno with hno|hno
    · exact absurd hno hnew
    · omega
  · refine⟨he,σ',p',⟨U',g1,f1,f2⟩,g3,?_,by rw[hts];exact hs,by rw[hts];exact ho,by rw[hts];exact ht,?_,by omega⟩
    · rw[hts]
      exact hB.sub hs ho (λi h1 h2=>pB_ne h1 (by omega) (by omega)) (by rw[ht];exact tip_first (pB_first (by omega)))
    · rw[hts]
      show ((σ.ts c).queue++[_]).length=k+1
      rw[List.length_append,hq];rfl
theorem bl_sub2 {w W:World}{pb xb:Nat}{c:Cfg}{bad:Nat->Bool}{k:Nat}(o:Obj)(h:SubAt w W pb xb c bad k)(hk:k<c.queue)(hc:c.Ok):
    Calls prog 21 #[.pointer (some ⟨pb,0,none⟩),.int .i64 ((k:Int)+1),.int .i64 0,.slice (some ⟨W.heap.size+1,0,none⟩) 1 1] ((W.alloc o).alloc (.cells #[.string (pathB k),.string ⟨#[]⟩,.string ⟨#[120]⟩] 49)) λe w'=>e=.returned (.bool true)/\SubAt w w' pb xb c bad (k+1):=by
  have hrow:=ed_new1 W o (.string (pathB k)) (.string ⟨#[]⟩) (.string ⟨#[120]⟩) 49
  have hb:Below W.heap.size W ((W.alloc o).alloc (.cells #[.string (pathB k),.string ⟨#[]⟩,.string ⟨#[120]⟩] 49)):=((Below.refl _ _).alloc (Nat.le_refl _) o).alloc (by simp) _
  refine bl_sub h hk hc hb (.inr ⟨W.heap.size+1,0,1,rfl,by simp,λi hi=>?_,λi hi=>?_,λi hi=>?_⟩) (by omega)
  · obtain rfl:i=0:=by have:i<1:=hi;omega
    exact hrow 0 _ rfl
  · obtain rfl:i=0:=by have:i<1:=hi;omega
    exact hrow 1 _ rfl
  · obtain rfl:i=0:=by have:i<1:=hi;omega
    exact hrow 2 _ rfl
theorem bl_start {w W:World}{pb xb:Nat}{c:Cfg}{bad:Nat->Bool}{n:Nat}(h:SubAt w W pb xb c bad n):VdAt w W pb xb c pB bad n ((c.retries+1)*2*n) (5+2*n):=by
  obtain⟨σ,p,hT,hG,hB,hs,ho,ht,hq,hbd⟩:=h
  refine⟨σ,p,hT,hG,hB,?_,hbd⟩
  unfold Ts.need
  rw[hs,hq]
  show 0+(c.retries+1)*(2*n)<=_
  rw[Nat.zero_add,Nat.mul_assoc]
  exact Nat.le_refl _
theorem bl_busy {w W:World}{pb xb:Nat}{c:Cfg}{P:Nat->ByteArray}{bad:Nat->Bool}{n N B:Nat}(h:BlAt w W pb xb c P bad n N B false):1<=N:=by
  obtain⟨σ,p,hT,hS,_,hd⟩:=h
  rcases hd with ⟨hd,_⟩|⟨_,ht⟩
  · cases hd
  · have h1:=(hS.bl.busy ht).1
    have h2:=hS.need
    omega
theorem BlAt.below {w W:World}{pb xb:Nat}{c:Cfg}{P:Nat->ByteArray}{bad:Nat->Bool}{n N B:Nat}{d:Bool}(h:BlAt w W pb xb c P bad n N B d):Below w.heap.size w W:=by
  obtain⟨σ,p,hT,_⟩:=h
  exact hT.below
theorem VdAt.below {w W:World}{pb xb:Nat}{c:Cfg}{P:Nat->ByteArray}{bad:Nat->Bool}{n N B:Nat}(h:VdAt w W pb xb c P bad n N B):Below w.heap.size w W:=by
  obtain⟨σ,p,hT,_⟩:=h
  exact hT.below
structure BlEnd (bad:Nat->Bool)(n:Nat)(p:Pe):Prop where
  kind:∀k∈p.known,1<=k.id->k.id<=n->k.kind=if bad k.id then 2 else 1
  has:∀i,1<=i->i<=n->∃k∈p.known,k.id=i
  land:p.landed=(1000000::List.range' 1 n).filter λi=> !bad i
theorem Bz.ends {c:Cfg}{P:Nat->ByteArray}{bad:Nat->Bool}{n:Nat}{σ:Sg}{p:Pe}(h:Bz c P bad n (σ.ts c))(hG:Gd c σ p)(hr:(σ.ts c).rest=[])(hb:bad 1000000=false):BlEnd bad n p:=by
  have hord:=h.ord
  rw[hr,List.append_nil] at hord
  have hk:∀o∈(σ.ts c).outs,o.2=if bad o.1 then 2 else 1:=λo ho=>by
    rcases h.knd o ho with e|e
    · rw[e]
      show 1=if bad 1000000 then 2 else 1
      rw[hb];rfl
    · exact e
  refine⟨λk hk1 h1 h2=>?_,λi h1 h2=>?_,?_⟩
  · rcases hG.kind_in hk1 with ⟨o,ho,e1,e2⟩|⟨h3,_⟩
    · rw[e2,hk o ho,e1]
    · rw[hr] at h3;cases h3
  · have hm:i∈(σ.ts c).outs.map Prod.fst:=by rw[hord];exact List.mem_cons_of_mem _ (List.mem_range'_1.2 ⟨h1,by omega⟩)
    have hi:i∈(σ.ts c).ids:=hG.g.ev.perm.mem_iff.1 (List.mem_append_left _ hm)
    rw[<-hG.g.pos.ids] at hi
    exact List.mem_map.1 hi
  · rw[hG.g.pos.landed,hG.dr,List.take_length,<-hord,List.filter_map]
    congr 1
    refine List.filter_congr λo ho=>?_
    show (o.2==1)= !bad o.1
    rw[hk o ho]
    cases bad o.1<;>rfl
theorem bl_end {w W:World}{pb xb:Nat}{c:Cfg}{P:Nat->ByteArray}{bad:Nat->Bool}{n N B:Nat}(h:BlAt w W pb xb c P bad n N B true)(hc:c.Ok)(hB:B<1000000)(hb:bad 1000000=false):∃σ p,Tn w W pb xb c σ p/\BlEnd bad n p/\p.known.length<1048576/\p.landed.length<1048576:=by
  obtain⟨σ,p,hT,hS,_,hd⟩:=h
  have hs:=hS.gd.g.small hc (by have:=hS.bud;unfold bud at this;omega)
  rcases hd with ⟨_,hr⟩|⟨hd,_⟩
  · exact⟨σ,p,hT,hS.bl.ends hS.gd hr hb,hs.1,hs.2.2.2.1⟩
  · cases hd
def landN (bad:Nat->Bool)(k:Nat):Nat:=((1000000::List.range' 1 k).filter λi=> !bad i).length
theorem landN_next (bad:Nat->Bool)(k:Nat):landN bad (k+1)=landN bad k+if bad (k+1) then 0 else 1:=by
  unfold landN
  rw[List.range'_concat,<-List.cons_append,List.filter_append,List.length_append]
  congr 1
  rw[Nat.one_mul,Nat.add_comm 1 k]
  cases h:bad (k+1)<;>simp[h]
theorem landN_at {bad:Nat->Bool}{n k:Nat}(hk:k<n)(hb:bad (k+1)=false):((1000000::List.range' 1 n).filter λi=> !bad i)[landN bad k]? =some (k+1):=by
  have e:1000000::List.range' 1 n=(1000000::List.range' 1 k)++((k+1)::List.range' (k+2) (n-k-1)):=by
    rw[List.cons_append]
    congr 1
    have h1:(k+1)::List.range' (k+2) (n-k-1)=List.range' (k+1) (n-k):=by
      obtain⟨m,hm⟩:∃m,n-k=m+1:=⟨n-k-1,by omega⟩
      rw[hm,List.range'_succ]
      rfl
    rw[h1,show k+1=1+1*k by omega,List.range'_append,show k+(n-k)=n by omega]
  rw[e,List.filter_append]
  unfold landN
  rw[List.getElem?_append_right (Nat.le_refl _),Nat.sub_self,List.filter_cons,hb]
  rfl
end Go.Proofs.YtgamgomepdfgdaaGreat
