import Derived.Test.YtgamgomepdfgdaaGreatFM40
set_option maxRecDepth 100000
set_option maxHeartbeats 8000000
namespace Go.Proofs.YtgamgomepdfgdaaGreat
open Go.RowKit Go.Proofs.Tryz
theorem one_at (W:World)(o:Obj)(q:ByteArray):EditsAt ((W.alloc o).alloc (.cells #[.string q,.string ⟨#[]⟩,.string ⟨#[120]⟩] 49)) (.slice (some ⟨W.heap.size+1,0,none⟩) 1 1) (pe q):=by
  have hrow:=ed_new1 W o (.string q) (.string ⟨#[]⟩) (.string ⟨#[120]⟩) 49
  refine .inr ⟨W.heap.size+1,0,1,rfl,by simp,λi hi=>?_,λi hi=>?_,λi hi=>?_⟩
  · obtain rfl:i=0:=by have:i<1:=hi;omega
    exact hrow 0 _ rfl
  · obtain rfl:i=0:=by have:i<1:=hi;omega
    exact hrow 1 _ rfl
  · obtain rfl:i=0:=by have:i<1:=hi;omega
    exact hrow 2 _ rfl
theorem one_below (W:World)(o:Obj)(q:ByteArray):Below W.heap.size W ((W.alloc o).alloc (.cells #[.string q,.string ⟨#[]⟩,.string ⟨#[120]⟩] 49)):=((Below.refl _ _).alloc (Nat.le_refl _) o).alloc (by simp) _
theorem tn_submit {w W W':World}{pb xb:Nat}{c:Cfg}{σ:Sg}{p:Pe}{id lane b:Nat}{q:ByteArray}(h:Tn w W pb xb c σ p)(hG:Gd c σ p)(hc:c.Ok){B:Nat}(hbd:bud c σ<=B)(hB:B<1000000)(hch:ChOK c id lane (pe q))(hnew:id∉(σ.ts c).ids)(hro:(σ.ts c).queue.length<c.queue)(hb:Below W.heap.size W W')(hE:EditsAt W' (.slice (some ⟨b,0,none⟩) 1 1) (pe q))(hbb:W.heap.size<=b):
    Calls prog 21 #[.pointer (some ⟨pb,0,none⟩),.int .i64 (id:Nat),.int .i64 (lane:Nat),.slice (some ⟨b,0,none⟩) 1 1] W' λe w'=>e=.returned (.bool true)/\∃σ' p',Tn w w' pb xb c σ' p'/\Gd c σ' p'/\σ'.ts c={σ.ts c with ids:=(σ.ts c).ids++[id],queue:=(σ.ts c).queue++[⟨id,lane,0,(σ.ts c).ids.length,pe q⟩]}/\bud c σ'<=B+2:=by
  obtain⟨U,h1,h2,h3⟩:=h
  refine(pl_submit U pb xb c σ p id lane (pe q) (some ⟨b,0,none⟩) 1 W' (h1.later hb) hG hc (by omega) hch hE (Nat.le_refl _) λg e=>?_).mono ?_
  · cases e
    intro hU
    have:=h1.lt b hU
    omega
  rintro e w' ⟨he,σ',p',U',g1,g2,g3,g4⟩
  obtain⟨f1,f2⟩:=far (h2.trans (hb.mono h2.size)) h3 g2
  have hbd':=g4.bud
  rcases g4 with ⟨hno,_⟩|⟨_,_,hts,_,_⟩
  · rcases hno with hno|hno
    · exact absurd hno hnew
    · omega
  · exact⟨he,σ',p',⟨U',g1,f1,f2⟩,g3,hts,by omega⟩
theorem mem_ids {l:List Nat}{k i:Nat}{Q:Nat->Prop}(h:∀i∈l,Q i)(hk:Q k)(hi:i∈l++[k]):Q i:=by
  rcases List.mem_append.1 hi with hi|hi
  · exact h i hi
  · rw[List.mem_singleton.1 hi];exact hk
theorem pre_sub {w W:World}{pb xb:Nat}{c:Cfg}{k:Nat}(o:Obj)(h:PreAt w W pb xb c k)(hk:k<c.queue)(hc:c.Ok):
    Calls prog 21 #[.pointer (some ⟨pb,0,none⟩),.int .i64 ((k:Int)+1),.int .i64 0,.slice (some ⟨W.heap.size+1,0,none⟩) 1 1] ((W.alloc o).alloc (.cells #[.string (pathB (k+1)),.string ⟨#[]⟩,.string ⟨#[120]⟩] 49)) λe w'=>e=.returned (.bool true)/\PreAt w w' pb xb c (k+1):=by
  obtain⟨σ,p,hT,hS,hq,hs,ho,ht,hX⟩:=h
  have hq16:=hc.2.2.2.2.2.2.2
  have hnew:k+1∉(σ.ts c).ids:=λhm=>by rcases hS.ids _ hm with h1|h1|h1<;>omega
  have hch:ChOK c ((k+1:Nat):Int) ((0:Nat):Int) (pe (pathB (k+1))):=⟨by omega,by omega,by omega,by have:=hc.1.1;omega,far_ok (by omega)⟩
  have:=tn_submit hT hS.gd hc hS.bud (by omega) hch hnew (by omega) (one_below W o _) (one_at W o (pathB (k+1))) (by omega)
  rw[show ((k+1:Nat):Int)=(k:Int)+1 from by omega] at this
  refine this.mono ?_
  rintro e w' ⟨he,σ',p',g1,g3,hts,hb'⟩
  have hpl:pe (pF (k+1))=pe (pathB (k+1)):=by rw[pF_low (by omega)]
  have hfs:Fr pF 999999 (k+1) (σ'.ts c):=by
    have:=hS.fr.sub (show k+1<17576 by omega) (pF_ne k)
    rw[hts,<-hpl];exact this
  refine⟨he,σ',p',g1,⟨g3,hfs,.inl (by rw[hts];exact hs),λi hi=>?_,by omega⟩,?_,by rw[hts];exact hs,by rw[hts];exact ho,by rw[hts];exact ht,λhm=>?_⟩
  · rw[hts] at hi
    exact mem_ids (Q:=λi=>i<=k+1\/i=999999\/i=1000000) (λi hi=>by rcases hS.ids i hi with h1|h1|h1<;>omega) (.inl (Nat.le_refl _)) hi
  · rw[hts]
    show ((σ.ts c).queue++[_]).length=k+1
    rw[List.length_append,hq];rfl
  · rw[hts] at hm
    exact mem_ids (Q:=λi=>i≠999999) (λi hi e=>hX (e▸hi)) (by omega) hm rfl
def FrQ (w w':World)(pb xb:Nat)(c:Cfg)(top B n m:Nat):Prop:=∃σ p,Tn w w' pb xb c σ p/\FrS c top B σ p/\(XAt c 999999 m (σ.ts c)/\(999999,1)∉(σ.ts c).outs)/\(σ.ts c).queue.length=n/\(∃k∈p.known,k.id=999999)
theorem FrQ.below {w w':World}{pb xb:Nat}{c:Cfg}{top B n m:Nat}(h:FrQ w w' pb xb c top B n m):Below w.heap.size w w':=by
  obtain⟨σ,p,hT,_⟩:=h
  exact hT.below
theorem FrQ.le {w w':World}{pb xb:Nat}{c:Cfg}{top B n m:Nat}(h:FrQ w w' pb xb c top B n m)(hc:c.Ok):n<=c.queue:=by
  obtain⟨σ,p,hT,hS,_,hq,_⟩:=h
  rw[<-hq];exact(hS.gd.g.ok.fits.inv hc).1.len
theorem known_of_ids {c:Cfg}{σ:Sg}{p:Pe}(hG:Gd c σ p){i:Nat}(h:i∈(σ.ts c).ids):∃k∈p.known,k.id=i:=by
  rw[<-hG.g.pos.ids] at h
  exact List.mem_map.1 h
theorem rest_ids {c:Cfg}{σ:Sg}{p:Pe}(hG:Gd c σ p){i:Nat}(h:i∈(σ.ts c).rest):i∈(σ.ts c).ids:=by
  refine hG.g.ev.perm.mem_iff.1 (List.mem_append_right _ ?_)
  unfold Ts.rest at h
  rcases List.mem_append.1 h with h|h
  · exact List.mem_append_right _ h
  · exact List.mem_append_left _ h
theorem fr_last {w W:World}{pb xb:Nat}{c:Cfg}{k:Nat}(h:PreAt w W pb xb c k)(hk:k<c.queue)(hc:c.Ok):
    Calls prog 21 #[.pointer (some ⟨pb,0,none⟩),.int .i64 999999,.int .i64 ((c.lanes:Int)-1),.slice (some ⟨W.heap.size,0,none⟩) 1 1] (W.alloc (.cells #[.string ⟨#[108,97,115,116]⟩,.string ⟨#[]⟩,.string ⟨#[120]⟩] 49)) λe w'=>e=.returned (.bool true)/\FrQ w w' pb xb c k (7+2*k) (k+1) ((c.lanes-1)*c.age+k+2):=by
  obtain⟨σ,p,hT,hS,hq,hs,ho,ht,hX⟩:=h
  have hq16:=hc.2.2.2.2.2.2.2
  have hl:=hc.1
  have hch:ChOK c ((999999:Nat):Int) ((c.lanes-1:Nat):Int) (pe lstB):=⟨by omega,by omega,by omega,by omega,last_ok⟩
  have hE:EditsAt (W.alloc (.cells #[.string lstB,.string ⟨#[]⟩,.string ⟨#[120]⟩] 49)) (.slice (some ⟨W.heap.size,0,none⟩) 1 1) (pe lstB):=by
    refine .inr ⟨W.heap.size,0,1,rfl,by simp,λi hi=>?_,λi hi=>?_,λi hi=>?_⟩
    · obtain rfl:i=0:=by have:i<1:=hi;omega
      exact(Bx.new W _ _).cell (i:=0) rfl
    · obtain rfl:i=0:=by have:i<1:=hi;omega
      exact(Bx.new W _ _).cell (i:=1) rfl
    · obtain rfl:i=0:=by have:i<1:=hi;omega
      exact(Bx.new W _ _).cell (i:=2) rfl
  have:=tn_submit hT hS.gd hc hS.bud (by omega) hch hX (by omega) (below_new W _) hE (Nat.le_refl _)
  rw[show ((c.lanes-1:Nat):Int)=(c.lanes:Int)-1 from by omega] at this
  refine this.mono ?_
  rintro e w' ⟨he,σ',p',g1,g3,hts,hb'⟩
  have hr:(σ'.ts c).rest=(σ.ts c).rest++[999999]:=by
    rw[hts]
    unfold Ts.rest
    show ((σ.ts c).segs.flatMap Sm.l).map Prod.fst++((σ.ts c).queue++[_]).map Ch.id=_
    rw[List.map_append,<-List.append_assoc];rfl
  have hpl:pF 999999=lstB:=pF_last
  have htl:(σ.ts c).tip lstB=⟨#[]⟩:=by
    rw[ht]
    refine tip_first λe=>?_
    have:=congrArg ByteArray.size e
    exact absurd this (by decide)
  have hfr:Fr pF 999999 k (σ'.ts c):=by
    refine⟨by rw[hts];exact hS.fr.eds,λx hx=>?_,λi hi=>?_,?_,λi hi=>?_,by rw[hts];exact hS.fr.fresh,by rw[hts];exact hS.fr.out⟩
    · rw[hts] at hx
      rcases List.mem_append.1 (show x∈(σ.ts c).queue++[_] from hx) with hx|hx
      · exact hS.fr.que x hx
      · rw[List.mem_singleton.1 hx]
        exact⟨by show pe lstB=pe (pF 999999);rw[hpl],λh=>absurd rfl h⟩
    · rw[hr] at hi
      rw[hts]
      rcases List.mem_append.1 hi with hi|hi
      · exact hS.fr.tip i hi
      · rw[List.mem_singleton.1 hi,hpl];exact htl
    · rw[hr,List.pairwise_append]
      refine⟨hS.fr.apart,List.pairwise_singleton _ _,λi hi j hj=>?_⟩
      rw[List.mem_singleton.1 hj,hpl]
      rcases hS.fr.tops i hi with h1|h1
      · rw[pF_low (by omega)];exact λe=>last_ne (by omega) e.symm
      · exact absurd (h1▸rest_ids hS.gd hi) hX
    · rw[hr] at hi
      rcases List.mem_append.1 hi with hi|hi
      · exact hS.fr.tops i hi
      · exact .inr (List.mem_singleton.1 hi)
  refine⟨he,σ',p',g1,⟨g3,hfr,.inl (by rw[hts];exact hs),λi hi=>?_,by omega⟩,⟨.inl ⟨(σ.ts c).queue,_,[],by rw[hts],rfl,Nat.le_refl _,?_⟩,by rw[hts];show _∉(σ.ts c).outs;rw[ho];decide⟩,?_,known_of_ids g3 (by rw[hts];exact List.mem_append_right _ (List.mem_singleton.2 rfl))⟩
  · rw[hts] at hi
    exact mem_ids (Q:=λi=>i<=k\/i=999999\/i=1000000) hS.ids (.inr (.inl rfl)) hi
  · rw[hq]
    show (c.lanes-1)*c.age-0+k+2<=_
    omega
  · rw[hts]
    show ((σ.ts c).queue++[_]).length=k+1
    rw[List.length_append,hq];rfl
theorem fr_queue {w W:World}{pb xb:Nat}{c:Cfg}{top B n m:Nat}(h:FrQ w W pb xb c top B n m)(hc:c.Ok)(hB:B<1000000):
    Calls prog 27 #[.pointer (some ⟨xb,0,none⟩)] W λe w'=>(∃qa qc,e=.returned (.tuple #[.slice qa n qc,.int .i64 0]))/\FrQ w w' pb xb c top B n m:=by
  obtain⟨σ,p,hT,hS,hX,hq,hk⟩:=h
  have hinv:=hS.gd.g.ok.fits.inv hc
  have hql:(tellQ c.age (Ts.all c g0 σ.rs).queue).length=(σ.ts c).queue.length:=tellQ_len λx hx=>by have:=(hinv.1.top x hx).2.1;have:=hc.1.2;omega
  refine(hT.queue hS.gd.g.ok hc (by have:=hS.bud;unfold bud at this;omega)).mono ?_
  rintro e w' ⟨hQ,hb,hT'⟩
  rcases hQ with ⟨_,qv,rfl,hrow⟩|⟨hu,_⟩
  · obtain⟨qa,qc,e1⟩:=(Sl.of_row hrow).form
    rw[hql,hq] at e1
    exact⟨⟨qa,qc,by rw[e1]⟩,σ,p,hT',hS,hX,hq,hk⟩
  · rw[hS.gd.g.up] at hu;cases hu
theorem fr_sub {w W:World}{pb xb:Nat}{c:Cfg}{top B n m:Nat}(o:Obj)(h:FrQ w W pb xb c top B n m)(hc:c.Ok)(hB:B<1000000)(hn:n<c.queue)(ht:top+1<17576):
    Calls prog 21 #[.pointer (some ⟨pb,0,none⟩),.int .i64 ((top:Int)+1),.int .i64 0,.slice (some ⟨W.heap.size+1,0,none⟩) 1 1] ((W.alloc o).alloc (.cells #[.string (pathB (top+1)),.string ⟨#[]⟩,.string ⟨#[120]⟩] 49)) λe w'=>e=.returned (.bool true)/\FrQ w w' pb xb c (top+1) (B+2) (n+1) m:=by
  obtain⟨σ,p,hT,hS,hX,hq,hk⟩:=h
  have hnew:top+1∉(σ.ts c).ids:=λhm=>by rcases hS.ids _ hm with h1|h1|h1<;>omega
  have hch:ChOK c ((top+1:Nat):Int) ((0:Nat):Int) (pe (pathB (top+1))):=⟨by omega,by omega,by omega,by have:=hc.1.1;omega,far_ok ht⟩
  have:=tn_submit hT hS.gd hc hS.bud hB hch hnew (by omega) (one_below W o _) (one_at W o (pathB (top+1))) (by omega)
  rw[show ((top+1:Nat):Int)=(top:Int)+1 from by omega] at this
  refine this.mono ?_
  rintro e w' ⟨he,σ',p',g1,g3,hts,hb'⟩
  have hpl:pe (pF (top+1))=pe (pathB (top+1)):=by rw[pF_low ht]
  have hfs:Fr pF 999999 (top+1) (σ'.ts c):=by
    have:=hS.fr.sub ht (pF_ne top)
    rw[hts,<-hpl];exact this
  refine⟨he,σ',p',g1,⟨g3,hfs,?_,λi hi=>?_,by omega⟩,⟨by rw[hts];exact hX.1.sub _ _,by rw[hts];exact hX.2⟩,?_,?_⟩
  · rw[hts]
    exact hS.idle
  · rw[hts] at hi
    exact mem_ids (Q:=λi=>i<=top+1\/i=999999\/i=1000000) (λi hi=>by rcases hS.ids i hi with h1|h1|h1<;>omega) (.inl (Nat.le_refl _)) hi
  · rw[hts]
    show ((σ.ts c).queue++[_]).length=n+1
    rw[List.length_append,hq];rfl
  · refine known_of_ids g3 ?_
    obtain⟨k0,hk0,e0⟩:=hk
    rw[hts]
    refine List.mem_append_left _ ?_
    rw[<-hS.gd.g.pos.ids,<-e0]
    exact List.mem_map_of_mem hk0
def FrP (w w':World)(pb xb:Nat)(c:Cfg)(top B m:Nat):Prop:=∃σ p f j,Tn w w' pb xb c σ p/\Gd c σ p/\Fr pF 999999 top (σ.ts c)/\((999999,1)∈(σ.ts c).outs\/XAt c 999999 m (σ.ts c))/\(σ.ts c).segs=[f]/\f.job=some j/\(∀i∈(σ.ts c).ids,i<=top\/i=999999\/i=1000000)/\bud c σ<=B/\(∃k∈p.known,k.id=999999)
theorem fr_pump {w W:World}{pb xb:Nat}{c:Cfg}{top B n m:Nat}(h:FrQ w W pb xb c top B n (m+1))(hc:c.Ok)(hB:B<1000000)(hn:1<=n):
    Calls prog 19 #[.pointer (some ⟨pb,0,none⟩)] W λe w'=>e=.returned (.bool true)/\FrP w w' pb xb c top (B+1) m:=by
  obtain⟨σ,p,⟨U,h1,h2,h3⟩,hS,hX,hq,hk⟩:=h
  have hbd:=hS.bud
  refine(pl_pump U pb xb c σ p W h1 hS.gd hc (by omega)).mono ?_
  rintro e w' ⟨he,σ',p',U',g1,g2,g3,g4⟩
  obtain⟨f1,f2⟩:=far h2 h3 g2
  obtain⟨a1,a2,⟨f,j,a3,_,a4⟩,_,a6⟩:=hS.fr.pump (hS.gd.g.ok.fits.inv hc).1 hc hS.idle (λe=>by rw[e] at hq;simp at hq;omega) (pF_ne top) hX.1
  have hids:(σ'.ts c).ids=(σ.ts c).ids:=by rw[g4.ts];exact a6
  refine⟨he,σ',p',f,j,⟨U',g1,f1,f2⟩,g3,a1.bones (by rw[g4.ts]) (by rw[g4.ts]) (by rw[g4.ts]) (by rw[g4.ts]),?_,by rw[g4.ts];exact a3,a4,by rw[hids];exact hS.ids,by have:=g4.bud;omega,?_⟩
  · rcases a2 with a2|a2
    · left;rw[g4.ts];exact a2
    · exact .inr (a2.bones (by rw[g4.ts]) (by rw[g4.ts]) (by rw[g4.ts]))
  · refine known_of_ids g3 ?_
    obtain⟨k0,hk0,e0⟩:=hk
    rw[hids,<-hS.gd.g.pos.ids,<-e0]
    exact List.mem_map_of_mem hk0
def FrE (w w':World)(pb xb:Nat)(c:Cfg)(top B m:Nat):Prop:=∃σ p kd,Tn w w' pb xb c σ p/\(∀k∈p.known,k.id=999999->k.kind=kd)/\(∃k∈p.known,k.id=999999)/\p.known.length<1048576/\(p.known.map Kn.id).Nodup/\(kd=1\/(kd=0/\∃n,FrQ w w' pb xb c top B n m))
theorem fr_verdict {w W:World}{pb xb:Nat}{c:Cfg}{top B m:Nat}(h:FrP w W pb xb c top B m)(hc:c.Ok)(hB:B<1000000):
    Calls prog 24 #[.pointer (some ⟨pb,0,none⟩),.slice none 0 0] W λe w'=>e=.returned (.bool true)/\FrE w w' pb xb c top (B+1) m:=by
  obtain⟨σ,p,f,j,⟨U,h1,h2,h3⟩,hG,hF,hX,hs,hj,hid,hbd,hk⟩:=h
  refine(pl_verdict U pb xb c σ p [] none 0 f [] j W h1 hG hc (by omega) hs hj (.inl rfl) (by decide)).mono ?_
  rintro e w' ⟨he,σ',p',U',g1,g2,g3,g4⟩
  obtain⟨f1,f2⟩:=far h2 h3 g2
  have hcl:clean (badOf []) f=true:=by
    unfold clean
    rw[Bool.not_eq_true',List.any_eq_false]
    intro y _
    unfold badOf
    simp
  have hts:=g4.ts
  rw[hcl] at hts
  have hout:(σ'.ts c).outs=(σ.ts c).outs:=by rw[hts];rfl
  have hids:(σ'.ts c).ids=(σ.ts c).ids:=by rw[hts];rfl
  have hkn:p'.known=p.known:=by rw[g4.pe]
  have hbd':bud c σ'<=B+1:=by
    unfold bud at hbd ⊢
    rw[hts,g4.len]
    show σ.rs.length+1+((σ.ts c).ids.length-(σ.ts c).acked)<=_
    omega
  have hsm0:=g3.g.small hc (by unfold bud at hbd';omega)
  have hsm:=hsm0.1
  have hnd:=hsm0.2.2.2.2.2
  have hk':∃k∈p'.known,k.id=999999:=by rw[hkn];exact hk
  refine⟨he,?_⟩
  by_cases hland:(999999,1)∈(σ.ts c).outs
  · refine⟨σ',p',1,⟨U',g1,f1,f2⟩,λk hk1 e1=>?_,hk',hsm,hnd,.inl rfl⟩
    have hkd:=g3.g.pos.kinds k hk1
    rw[g3.dr,List.take_length,hout,e1] at hkd
    rw[hkd]
    exact kindOf_mem (o:=(999999,1)) hG.g.ev.outs_nd hland
  · have hX2:XAt c 999999 m (σ.ts c):=hX.resolve_left hland
    obtain⟨b1,b2,b3⟩:=hF.answer (hG.g.ok.fits.inv hc).1 hs hj hX2
    rw[<-hts] at b1 b2 b3
    refine⟨σ',p',0,⟨U',g1,f1,f2⟩,λk hk1 e1=>?_,hk',hsm,hnd,.inr ⟨rfl,_,σ',p',⟨U',g1,f1,f2⟩,⟨g3,b1,b3,by rw[hids];exact hid,hbd'⟩,⟨b2,by rw[hout];exact hland⟩,rfl,hk'⟩⟩
    rcases g3.kind_in hk1 with ⟨o,ho,e2,e3⟩|⟨_,e3⟩
    · exfalso
      have h4:o.2=1:=b1.out o ho
      rw[hout] at ho
      have:o=(999999,1):=Prod.ext (e2.trans e1) h4
      exact hland (this▸ho)
    · exact e3
theorem FrQ.busy {w W:World}{pb xb:Nat}{c:Cfg}{top B n m:Nat}(h:FrQ w W pb xb c top B n m):1<=m:=by
  obtain⟨σ,p,_,_,⟨hX,hno⟩,_⟩:=h
  rcases hX with ⟨A,x,B',_,_,_,h4⟩|⟨_,h4⟩|h4
  · omega
  · exact h4
  · exact absurd h4 hno
theorem FrE.look {w W:World}{pb xb:Nat}{c:Cfg}{top B m:Nat}(h:FrE w W pb xb c top B m):∃(i0 kd:Nat),(∀n,Calls prog 25 #[.pointer (some ⟨pb,0,none⟩),.int .i64 999999] (W.drewN n) λe w'=>e=.returned (.int .i64 i0)/\w'=W.drewN n)/\
    (∃gk ok len kc,W.cell? ⟨pb,8,none⟩=some (.slice (some ⟨gk,ok,none⟩) len kc)/\i0<len/\len<1048576/\W.cell? ⟨gk,ok+i0*3+1,none⟩=some (.int .i64 (kd:Nat)))/\Below w.heap.size w W/\(kd=1\/(kd=0/\∃n,FrQ w W pb xb c top B n m)):=by
  obtain⟨σ,p,kd,hT,hkd,⟨k0,hk0,e0⟩,hl,hnd,hc⟩:=h
  have hbw:=hT.below
  obtain⟨U,h1,h2,h3⟩:=hT
  obtain⟨X,R,V,v,hP,hL,hap,hU⟩:=h1.ex
  obtain⟨i0,hi0,ei0⟩:=List.getElem_of_mem hk0
  have hlen:v.ks.length=p.known.length:=by rw[<-hL.ks,List.length_map]
  have hkr:=hL.kr
  obtain⟨gk,ok,kc,ekv,_⟩:=hkr.addr (by omega)
  rw[ekv] at hkr
  have hiv:i0<v.ks.length:=by omega
  refine⟨i0,kd,λn=>?_,⟨gk,ok,v.ks.length,kc,?_,hiv,by omega,?_⟩,hbw,hc⟩
  · refine(pl_find R V pb xb c p v 999999 _ (hL.later (Drew.one W n).below) (by omega)).mono ?_
    rintro e w' ⟨hF,hw⟩
    refine⟨?_,hw⟩
    rcases hF with ⟨i,k,hk,hid,rfl⟩|⟨hno,_⟩
    · obtain⟨hi,hie⟩:=List.getElem?_eq_some_iff.1 hk
      have h4:(p.known.map Kn.id)[i]'(by rw[List.length_map];exact hi)=(p.known.map Kn.id)[i0]'(by rw[List.length_map];exact hi0):=by
        rw[List.getElem_map,List.getElem_map,hie,ei0,e0];omega
      have h5:i=i0:=List.getElem_inj hnd|>.1 h4
      rw[h5]
    · exact absurd (by rw[e0];rfl) (hno k0 hk0)
  · rw[<-ekv];exact hL.bx.cell (i:=8) rfl
  · have h0:W.cell? ⟨gk,ok+i0*3+1,none⟩=some (.int .i64 ((v.ks[i0]).1.kind:Nat)):=hkr.at_ (f:=cKn) (λ_=>rfl) hiv 1 rfl
    have h6:(v.ks[i0]).1=p.known[i0]:=by
      have e:(v.ks.map Prod.fst)[i0]'(by rw[List.length_map];exact hiv)=p.known[i0]:=by simp only[hL.ks]
      rw[<-e,List.getElem_map]
    rw[h0,h6,ei0,hkd k0 hk0 e0]
theorem PreAt.below {w w':World}{pb xb:Nat}{c:Cfg}{k:Nat}(h:PreAt w w' pb xb c k):Below w.heap.size w w':=by
  obtain⟨σ,p,hT,_⟩:=h
  exact hT.below
theorem FrQ.cell {w w':World}{pb xb:Nat}{c:Cfg}{top B n m:Nat}(h:FrQ w w' pb xb c top B n m):w'.cell? ⟨pb,0,none⟩=some (.pointer (some ⟨xb,0,none⟩)):=by
  obtain⟨σ,p,hT,_⟩:=h
  exact hT.cell
theorem FrQ.up {w w':World}{pb xb:Nat}{c:Cfg}{top B B' n m m':Nat}(h:FrQ w w' pb xb c top B n m)(hB:B<=B')(hm:m'=m):FrQ w w' pb xb c top B' n m':=by
  obtain⟨σ,p,t1,t2,t3⟩:=h
  exact⟨σ,p,t1,⟨t2.gd,t2.fr,t2.idle,t2.ids,Nat.le_trans t2.bud hB⟩,by rw[hm];exact t3⟩
theorem FrQ.drawn {w w':World}{pb xb:Nat}{c:Cfg}{top B n m:Nat}(h:FrQ w w' pb xb c top B n m)(k:Nat):FrQ w (w'.drewN k) pb xb c top B n m:=by
  obtain⟨σ,p,t1,t2,t3⟩:=h
  exact⟨σ,p,t1.later (Drew.one w' k).below,t2,t3⟩
end Go.Proofs.YtgamgomepdfgdaaGreat
