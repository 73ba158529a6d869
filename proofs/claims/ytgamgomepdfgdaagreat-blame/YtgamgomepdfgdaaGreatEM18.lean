import Derived.Test.YtgamgomepdfgdaaGreatEM13
set_option maxRecDepth 100000
set_option maxHeartbeats 8000000
namespace Go.Proofs.YtgamgomepdfgdaaGreat
open Go.RowKit Go.Proofs.Tryz
theorem set9 (c:Cfg)(x:Xt)(b t:Nat)(qv qv':Value)(sb n:Nat)(ov:Value):(yardCells c x b t qv sb n ov).setIfInBounds 9 qv'=yardCells c x b t qv' sb n ov:=rfl
theorem set1415 (c:Cfg)(x:Xt)(b t:Nat)(qv:Value)(sb n:Nat)(ov ov':Value):((yardCells c x b t qv sb n ov).setIfInBounds 14 (.int .i64 ((n:Int)+1))).setIfInBounds 15 ov'=yardCells c x b t qv sb (n+1) ov':=by
  simp[yardCells]
theorem set15 (c:Cfg)(x:Xt)(b t:Nat)(qv:Value)(sb n:Nat)(ov ov':Value):(yardCells c x b t qv sb n ov).setIfInBounds 15 ov'=yardCells c x b t qv sb n ov':=rfl
theorem woP_fst (id:Nat)(q:List Pw):(woP id q).map Prod.fst=(q.map Prod.fst).filter λc=>c.id !=id:=by
  rw[woP,List.filter_map];rfl
theorem drop_snoc {α:Type}{l:List α}{k:Nat}(h:k<=l.length)(x:α):(l++[x]).drop k=l.drop k++[x]:=List.drop_append_of_le_length h
theorem tEnd {S:Nat->Prop}{yb mb n0:Nat}(id kind:Nat){c:Cfg}{s:Ts}{w:World}{q:List Pw}{sb:Nat}{qv ov:Value}{x:Xt}(h:YardIs w S yb mb n0 c s q sb qv ov x)(ho:s.outs.length<1048576000)(ha:s.acked<=s.outs.length):
    Calls prog 170 #[.pointer (some ⟨yb,0,none⟩),.int .i64 id,.int .i64 kind] w λe w'=>e=.returned (.tuple #[])/\(∃ov',YardIs w' (Plus S w) yb mb n0 c {s with outs:=s.outs++[(id,kind)]} q sb qv ov' x)/\OnlyT w w' S [201,99]:=by
  refine(yEnd yb _ s.outs.length id kind ov _ _ w h.box rfl rfl h.outs.row (by omega) ho).mono ?_
  rintro e w' ⟨rfl,o',h1,h2,h3,h4⟩
  rw[set1415] at h1
  have O:OnlyT w w' S [201,99]:=OnlyT.mk h4 λk hk e=>by
    rcases e with rfl|e
    · exact⟨h.fy,_,by simp,h.box.ty⟩
    · exact⟨h.outs.own k e,_,by simp,h.outs.row.ty e⟩
  obtain⟨tl,zs,hr⟩:=h.rest
  refine⟨rfl,⟨o',h.qs,?_,h.que.keptT O.k (Plus.old w) (by decide) (by decide),O.sub h.sub (by decide),⟨?_,λk hk=>?_⟩,.inl h.fy,.inl h.fs,⟨tl,zs,hr.keptT O.k (Plus.old w) h.np rfl rfl rfl (Nat.le_refl _) (by unfold NoRest NoSeg;decide) (O.map hr.map (by decide))⟩,h.nt⟩,O⟩
  · show Bx w' yb _ (yardCells c x _ _ _ sb (s.outs++[(id,kind)]).length o')
    rw[List.length_append];exact h1
  · show Sl w' _ 3 o' ((s.outs++[(id,kind)]).length-s.acked) _
    rw[drop_snoc ha,oc_snoc,List.length_drop,List.length_append]
    have e1:s.acked+(s.outs.length-s.acked)=s.outs.length:=by omega
    have e2:s.outs.length+[(id,kind)].length-s.acked=s.outs.length-s.acked+1:=by simp only[List.length_singleton];omega
    rw[e1,e2]
    exact h2
  · rcases h3 with e|⟨k',e,hk'⟩
    · rw[e] at hk;exact .inl (h.outs.own k hk)
    · rw[e] at hk;cases hk;exact .inr hk'
theorem yWithdraw (S:Nat->Prop)(yb mb n0 id:Nat)(c:Cfg)(s:Ts)(w:World)(hY:YardAt w S yb mb n0 c s)(hn:s.queue.length<=16)(hex:∃x∈s.queue,x.id=id)(ho:s.outs.length<1048576000)(ha:s.acked<=s.outs.length):
    Calls prog 116 #[.pointer (some ⟨yb,0,none⟩),.int .i64 id] w λe w'=>e=.returned (.tuple #[])/\YardAt w' (Plus S w) yb mb n0 c {s with queue:=s.queue.filter λc=>c.id !=id,outs:=s.outs++[(id,4)]}/\Only w w' S:=by
  obtain⟨q,sb,qv,ov,x,h,hx⟩:=hY
  have hql:=h.qlen
  have hpos:0<q.length:=by
    obtain⟨x,hx,_⟩:=hex
    rw[hql];exact List.length_pos_of_mem hx
  obtain⟨g,off,cap,rfl,hnc,hcm⟩:=h.que.row.addr hpos
  have HY:Hid (YardIs w S yb mb n0 c s q sb (.slice (some ⟨g,off,none⟩) q.length cap) ov x):=h
  have HX:Hid (x.n<=n0+4*s.outs.length):=hx
  have hyl:=h.box.lt
  have hgl:g<w.heap.size:=h.que.row.lt rfl
  have hgy:g≠yb:=λe=>h.que.row.ne h.box (by decide) (by rw[e];rfl)
  have c9:=(h.box.mk (.cells #[.int .i64 id] 3)).cell (i:=9) rfl
  have hD:=delete_row q c.age id g off cap w.heap.size (w.alloc (.cells #[.int .i64 id] 3)) (h.que.row.mk _) h.sl (by simp) (by omega) (by omega)
  have hE:=λW (S':Nat->Prop) q' qv' s' (hW:YardIs W S' yb mb n0 c s' q' sb qv' ov x) (e1:s'.outs=s.outs) (e2:s'.acked=s.acked)=>tEnd id 4 hW (by rw[e1];exact ho) (by rw[e1,e2];exact ha)
  have HE:Hid _:=hE
  clear h hx hql hex hE
  go_enter func116,ntmps116
  go_upto_region 2 with fail
  go_fit hD
  rintro e w1 ⟨rfl,hS1,hG1⟩
  have h:=HY.out
  have B1:Bx w1 yb 201 (yardCells c x s.begun s.now (.slice (some ⟨g,off,none⟩) q.length cap) sb s.outs.length ov):=(h.box.mk _).grown hG1 (by simpa using hgy.symm)
  have HB1:Hid (Bx w1 yb 201 (yardCells c x s.begun s.now (.slice (some ⟨g,off,none⟩) q.length cap) sb s.outs.length ov)):=B1
  have f9:=B1.fr 9
  have d9:=B1.cell (i:=9) rfl
  have b0:w1.cell? ⟨w.heap.size,0,none⟩=some (.int .i64 id):=World.grownBy.cell hG1 (v:=.int .i64 id) (by simp) (by simp;omega)
  have hyw:yb≠w.heap.size:=by omega
  have HS1:Hid (Sl w1 193 6 (.slice (some ⟨g,off,none⟩) (woP id q).length cap) (woP id q).length ((woP id q).flatMap (cP c.age))):=hS1
  have HG1:Hid (w.grownBy w1 (some g)):=(World.grownBy_alloc _ _ _).trans hG1
  clear h hD B1 hS1 hG1 c9
  go_upto_region 2 with fail
  have B2:Bx (w1.setCell ⟨yb,9,none⟩ (.slice (some ⟨g,off,none⟩) (woP id q).length cap)) yb 201 (yardCells c x s.begun s.now (.slice (some ⟨g,off,none⟩) (woP id q).length cap) sb s.outs.length ov):=by
    have:=HB1.out.set 9 (.slice (some ⟨g,off,none⟩) (woP id q).length cap)
    rwa [set9] at this
  have O2:OnlyT w (w1.setCell ⟨yb,9,none⟩ (.slice (some ⟨g,off,none⟩) (woP id q).length cap)) S [201,193]:=OnlyT.mk ((Only.of_grown HG1.out (S:=λk=>k=yb\/k=g) λk h=>by cases h;exact .inr rfl).set (.inl (.inl rfl))) λk hk e=>by
    rcases e with rfl|rfl
    · exact⟨HY.out.fy,_,by simp,HY.out.box.ty⟩
    · exact⟨HY.out.que.fq _ rfl,_,by simp,HY.out.que.row.ty rfl⟩
  have R2:Hid (Sl (w1.setCell ⟨yb,9,none⟩ (.slice (some ⟨g,off,none⟩) (woP id q).length cap)) 193 6 (.slice (some ⟨g,off,none⟩) (woP id q).length cap) (woP id q).length ((woP id q).flatMap (cP c.age))):=
    Sl.grown HS1.out (grown_set _ _ _ _) (λk hk e=>hgy (by cases hk;injection e with e;exact e.symm))
  have HO2:Hid (OnlyT w (w1.setCell ⟨yb,9,none⟩ (.slice (some ⟨g,off,none⟩) (woP id q).length cap)) S [201,193]):=O2
  have Y2:Hid (YardIs (w1.setCell ⟨yb,9,none⟩ (.slice (some ⟨g,off,none⟩) (woP id q).length cap)) (Plus S w) yb mb n0 c {s with queue:=s.queue.filter λc=>c.id !=id} (woP id q) sb (.slice (some ⟨g,off,none⟩) (woP id q).length cap) ov x):=by
    have h:=HY.out
    obtain⟨tl,zs,hr⟩:=h.rest
    exact⟨by rw[woP_fst];exact h.qs.filter _,B2,⟨R2.out,λy hy=>O2.sl (h.que.eds y (List.mem_filter.1 hy).1) (by decide),λk hk=>.inl (h.que.fq k hk),λy hy k hk=>.inl (h.que.fe y (List.mem_filter.1 hy).1 k hk)⟩,O2.sub h.sub (by decide),h.outs.keptT O2.k (Plus.old w) (by decide),.inl h.fy,.inl h.fs,⟨tl,zs,hr.keptT O2.k (Plus.old w) h.np rfl rfl rfl (Nat.le_refl _) (by unfold NoRest NoSeg;decide) (O2.map hr.map (by decide))⟩,h.nt⟩
  have HE2:=HE.out _ _ _ _ _ Y2.out rfl rfl
  have b2:(w1.setCell ⟨yb,9,none⟩ (.slice (some ⟨g,off,none⟩) (woP id q).length cap)).cell? ⟨w.heap.size,0,none⟩=some (.int .i64 id):=by
    rw[World.cell?_setCell_other _ _ _ _ (by intro e;injection e with e;omega)];exact b0
  generalize w1.setCell ⟨yb,9,none⟩ (.slice (some ⟨g,off,none⟩) (woP id q).length cap)=W at *
  clear HE HB1 HS1 HG1 B2 b0 f9 d9 Y2 R2 O2
  go_wp2_with fail
  go_fit HE2
  rintro e w3 ⟨rfl,⟨o',h1⟩,h2⟩
  have H1:Hid _:=h1
  have H2:Hid _:=h2
  clear h1 h2 HE2 b2
  go_wp2_with fail
  have hsz:w.heap.size<=W.heap.size:=HO2.out.size
  have hn:=HY.out.np
  refine bodyPost_end (v:=.tuple #[]) (results_none (by kernel_rfl) _ _ _) rfl ⟨rfl,⟨_,_,_,o',x,YardIs.mono H1.out (Plus.two hsz) hn,?_⟩,(OnlyT.trans HO2.out H2.out λk hk=>hk).only⟩
  have:=HX.out
  simp only[List.length_append,List.length_singleton]
  omega
section
open Go.Maps
theorem step_len_subm {ops:Array Oper}{o:Oper}{a:Act}{w:World}{K:Act->World->Prop}{Q:Exit->Act->World->Prop}{E:Prop}(hg:o.guard=none)(m:Operand)(ho:o.op=Op.call {callee:=Callee.builtin Builtin.len,args:=#[m],argTypes:=#[194]})(sb:Nat)(ids:List Nat)(hm:a.eval m=.map (some sb))(hs:Subm w sb ids)(hK:K (a.put o.dst (.int .i64 ids.length)) w):
    if Region.wanted o (yielded ops a.tmps)=true then Oper.wp prog o a w K Q else E:=by
  have hw:Region.wanted o (yielded ops a.tmps)=true:=by simp[Region.wanted,hg]
  rw[if_pos hw]
  obtain⟨D,h1,h2,h3⟩:=hs
  rw[<-h2] at hK
  unfold Oper.wp
  simp[execOp,ho,resolve,invoke,builtin,hm,h1.len underS o.type,Result.andThen]
  exact hK
theorem Subm.later {w w':World}{sb:Nat}{ids:List Nat}(h:Subm w sb ids)(hb:Below w.heap.size w w'):Subm w' sb ids:=h.same (hb.block sb h.lt)
theorem Sl.put_last {w:World}{age n:Nat}{v:Value}{q:List Pw}{x:Pw}(h:Sl w 193 6 v n (q.flatMap (cP age)++cP age x)):Sl w 193 6 v n ((q++[x]).flatMap (cP age)):=by
  rw[List.flatMap_append];simpa using h
def recC (kind lane:Nat)(ea:Option Addr)(en ec id:Nat)(pass:Bool)(num:Nat):Array Value:=#[.int .i64 kind,.int .i64 lane,.slice ea en ec,.int .i64 id,.bool pass,.int .i64 num]
structure Queued (w wz:World)(yb id lane:Nat)(xt:Xt)(bg nw:Nat)(c:Cfg)(es:List Ed)(q:List Pw)(sb no ni:Nat)(qv ov:Value):Prop where
  ex:∃ge qv',w.heap.size<=ge/\Bx wz yb 201 (yardCells c xt bg nw qv' sb no ov)/\Sl wz 193 6 qv' (q.length+1) ((q++[((⟨id,lane,0,ni,es⟩:Ch),(.slice (some ⟨ge,0,none⟩) es.length es.length:Value))]).flatMap (cP c.age))/\Sl wz 49 3 (.slice (some ⟨ge,0,none⟩) es.length es.length) es.length (es.flatMap cE)/\(qv'.ownBlock=qv.ownBlock\/∃g,qv'.ownBlock=some g/\w.heap.size<=g)
  only:Only w wz (λk=>k=yb\/qv.ownBlock=some k)
  box:wz.cell? ⟨w.heap.size,3,none⟩=some (.int .i64 id)
set_option linter.unusedSimpArgs false in
theorem ySubmit (S:Nat->Prop)(yb mb n0 kind id lane num:Nat)(pass:Bool)(b eo ec:Nat)(es:List Ed)(c:Cfg)(s:Ts)(w:World)(hY:YardAt w S yb mb n0 c s)(hn:s.queue.length<=16)(hsm:Small es)(hid:id<=1000000)(hnew:id∉s.ids)(hi:s.ids.length<1048576000)(hlt:b<w.heap.size)(h0:∀i (h:i<es.length),w.cell? ⟨b,eo+i*3,none⟩=some (.string es[i].1))(h1:∀i (h:i<es.length),w.cell? ⟨b,eo+i*3+1,none⟩=some (.string es[i].2.1))(h2:∀i (h:i<es.length),w.cell? ⟨b,eo+i*3+2,none⟩=some (.string es[i].2.2)):
    Calls prog 115 #[.pointer (some ⟨yb,0,none⟩),.agg (recC kind lane (some ⟨b,eo,none⟩) es.length ec id pass num)] w λe w'=>e=.returned (.tuple #[])/\YardAt w' (Plus S w) yb mb n0 c {s with ids:=s.ids++[id],queue:=s.queue++[⟨id,lane,0,s.ids.length,es⟩]}/\Only w w' S:=by
  obtain⟨q,sb,qv,ov,xt,h,hx⟩:=hY
  have HX:Hid (xt.n<=n0+4*s.outs.length):=hx
  obtain⟨i0,hi0,hz0,hz1,hz2⟩:=info_parts info_pw
  have hq16:q.length<=16:=by rw[h.qlen];exact hn
  have HY:Hid (YardIs w S yb mb n0 c s q sb qv ov xt):=h
  obtain⟨qa,qcap,rfl⟩:=h.que.row.form
  have hyl:=h.box.lt
  have hyw:yb≠w.heap.size:=by omega
  have hwy:w.heap.size≠yb:=by omega
  have hC:=copyEdits_sl es b eo ec (w.alloc (.cells (recC kind lane (some ⟨b,eo,none⟩) es.length ec id pass num) 140)).drew (by simp;omega) (λi hi=>jcell_after (below_new_drew w _) (h0 i hi)) (λi hi=>jcell_after (below_new_drew w _) (h1 i hi)) (λi hi=>jcell_after (below_new_drew w _) (h2 i hi)) hsm.1 (λx hx=>by
    obtain⟨k1,k2,k3⟩:=hsm.2 x hx
    omega)
  have qne:=h.que.row.ne h.box (by decide)
  have qnw:(Value.slice qa q.length qcap).ownBlock≠some w.heap.size:=λe=>by
    have:=h.que.row.lt e
    omega
  have hsub0:Subm (w.alloc (.cells (recC kind lane (some ⟨b,eo,none⟩) es.length ec id pass num) 140)).drew sb s.ids:=h.sub.later (below_new_drew w _)
  have q1:Hid (q.length+1<=maxLen):=by show _<=_;unfold maxLen;omega
  have q2:Hid ((q.length+1)*64<=140737488355328):=by show _<=_;omega
  have B0:Bx (w.alloc (.cells (recC kind lane (some ⟨b,eo,none⟩) es.length ec id pass num) 140)) yb 201 (yardCells c xt s.begun s.now (.slice qa q.length qcap) sb s.outs.length ov):=h.box.mk _
  have HB0:Hid (Bx (w.alloc (.cells (recC kind lane (some ⟨b,eo,none⟩) es.length ec id pass num) 140)) yb 201 (yardCells c xt s.begun s.now (.slice qa q.length qcap) sb s.outs.length ov)):=B0
  have HR0:Hid (Sl (w.alloc (.cells (recC kind lane (some ⟨b,eo,none⟩) es.length ec id pass num) 140)) 193 6 (.slice qa q.length qcap) q.length (q.flatMap (cP c.age))):=h.que.row.mk _
  have HG0:Hid (w.grownBy (w.alloc (.cells (recC kind lane (some ⟨b,eo,none⟩) es.length ec id pass num) 140)) none):=World.grownBy_alloc _ _ _
  have X0:Bx (w.alloc (.cells (recC kind lane (some ⟨b,eo,none⟩) es.length ec id pass num) 140)) w.heap.size 140 (recC kind lane (some ⟨b,eo,none⟩) es.length ec id pass num):=Bx.new _ _ _
  clear h hx h0 h1 h2 hsm
  unfold recC
  go_enter func115,ntmps115
  go_upto_region 1 with fail
  unfold recC at hC hsub0 B0 HB0 HR0 HG0 X0
  generalize hw0:w.alloc (.cells #[.int .i64 kind,.int .i64 lane,.slice (some ⟨b,eo,none⟩) es.length ec,.int .i64 id,.bool pass,.int .i64 num] 140)=w0 at *
  have hs0:w0.heap.size=w.heap.size+1:=by rw[<-hw0];simp
  clear hw0
  have x1:w0.cell? ⟨w.heap.size,1,none⟩=some (.int .i64 lane):=X0.cell (i:=1) rfl
  have x2:w0.cell? ⟨w.heap.size,2,none⟩=some (.slice (some ⟨b,eo,none⟩) es.length ec):=X0.cell (i:=2) rfl
  have x3:w0.cell? ⟨w.heap.size,3,none⟩=some (.int .i64 id):=X0.cell (i:=3) rfl
  have y1:w0.cell? ⟨yb,1,none⟩=some (.int .i64 c.age):=B0.cell (i:=1) rfl
  have y9:w0.cell? ⟨yb,9,none⟩=some (.slice qa q.length qcap):=B0.cell (i:=9) rfl
  have y10:w0.cell? ⟨yb,10,none⟩=some (.map (some sb)):=B0.cell (i:=10) rfl
  have f9:=B0.fr 9
  have hk1:∀(W:World) (v:Value) (o:Nat),(W.setCell ⟨yb,9,none⟩ v).cell? ⟨w.heap.size,o,none⟩=W.cell? ⟨w.heap.size,o,none⟩:=λW v o=>World.cell?_setCell_other _ _ _ _ (by intro e;injection e with e1 e2;omega)
  have hk2:∀(W:World) (v:Value),(W.setCell ⟨yb,9,none⟩ v).cell? ⟨yb,1,none⟩=W.cell? ⟨yb,1,none⟩:=λW v=>World.cell?_setCell_other _ _ _ _ (by intro e;injection e with e1 e2;omega)
  have hk3:∀(W:World) (v:Value),(W.setCell ⟨yb,9,none⟩ v).cell? ⟨yb,10,none⟩=W.cell? ⟨yb,10,none⟩:=λW v=>World.cell?_setCell_other _ _ _ _ (by intro e;injection e with e1 e2;omega)
  clear B0 X0
  go_cut [31] from 4 (λ_ wz=>Queued w wz yb id lane xt s.begun s.now c es q sb s.outs.length s.ids.length (.slice qa q.length qcap) ov)
  case first=>
    refine wp_region_held_drew (S:=(λw'=>w'.cell? ⟨w.heap.size,1,none⟩=some (.int .i64 lane)/\w'.cell? ⟨w.heap.size,2,none⟩=some (.slice (some ⟨b,eo,none⟩) es.length ec)/\w'.cell? ⟨w.heap.size,3,none⟩=some (.int .i64 id)/\w'.cell? ⟨yb,1,none⟩=some (.int .i64 c.age)/\w'.cell? ⟨yb,10,none⟩=some (.map (some sb)))) (by kernel_rfl) ?_ (λhHeld=>?_)
    · (try dsimp only)
      (first|go_keep|(refine⟨?_,?_,?_,?_,?_⟩<;>(first|rw[hk1]|rw[hk2]|rw[hk3])<;>assumption))
    refine tk 0 ?_
    refine tk 1 ?_
    refine tk 2 ?_
    refine tk 3 ?_
    refine tk 5 ?_
    refine tk 6 ?_
    refine tk 7 ?_
    refine tk 8 ?_
    refine tk 9 ?_
    refine tk 10 ?_
    refine tk 11 ?_
    refine tk 12 ?_
    refine tk 13 ?_
    refine tk 14 ?_
    refine tk 15 ?_
    refine tk 16 ?_
    refine tk 17 ?_
    refine tk 18 ?_
    refine tk 20 ?_
    refine tk 21 ?_
    refine wpAnyH_ready (rs:=[4,19]) (by kernel_rfl) (by simp) ?_
    refine AllReadyH.cons rfl (λK hK=>?_) ?_
    · go_simp
      refine hK.out _ _ ?_ (λhHeld=>?_)
      · (try dsimp only)
        (first|go_keep|(refine⟨?_,?_,?_,?_,?_⟩<;>(first|rw[hk1]|rw[hk2]|rw[hk3])<;>assumption))
      · clear hK K
        refine wpAnyH_ready (rs:=[19]) (by kernel_rfl) (by simp) ?_
        refine AllReadyH.cons rfl (λK hK=>?_) ?_
        · (refine step_len_subm rfl _ rfl sb s.ids rfl (by first|exact hsub0|exact hsub2) ?_)
          refine hK.out _ _ ?_ (λhHeld=>?_)
          · (try dsimp only)
            (first|go_keep|(refine⟨?_,?_,?_,?_,?_⟩<;>(first|rw[hk1]|rw[hk2]|rw[hk3])<;>assumption))
          · clear hK K
            refine wpAnyH_ready (rs:=[22]) (by kernel_rfl) (by simp) ?_
            refine AllReadyH.cons rfl (λK hK=>?_) ?_
            · go_simp
              go_wp2_with (go_at_call 167;refine hC.mono ?_;rintro e w2 ⟨rfl,hS2,hb2⟩;have x12:=jcell_after hb2 x1;have x22:=jcell_after hb2 x2;have x32:=jcell_after hb2 x3;have y12:=jcell_after hb2 y1;have y92:=jcell_after hb2 y9;have y92o:∀o,(w2.alloc o).cell? ⟨yb,9,none⟩=some (.slice qa q.length qcap):=(λo=>jcell_after (below_new w2 o) y92);have y102:=jcell_after hb2 y10;have f92:w2.frozen? ⟨yb,9,none⟩=false:=frozen_after hb2 (jcell_lt y9) f9;have hsub2:=hsub0.later hb2;have HS2:Hid (Sl w2 49 3 (.slice (some ⟨w.heap.size+1,0,none⟩) es.length es.length) es.length (es.flatMap cE)):=(by rw[<-hs0];exact hS2);have HB2:Hid (Below w0.drew.heap.size w0.drew w2):=hb2;have HR2:Hid (Sl w2 193 6 (.slice qa q.length qcap) q.length (q.flatMap (cP c.age))):=Sl.kept HR0.out (λg hg=>hb2.block g (Sl.lt HR0.out hg));have HX2:Hid (Bx w2 yb 201 (yardCells c xt s.begun s.now (.slice qa q.length qcap) sb s.outs.length ov)):=(hb2.block yb (jcell_lt y9)).trans HB0.out;clear hS2 hb2)
              refine hK.out _ _ ?_ (λhHeld=>?_)
              · (try dsimp only)
                (first|go_keep|(refine⟨?_,?_,?_,?_,?_⟩<;>(first|rw[hk1]|rw[hk2]|rw[hk3])<;>assumption))
              · clear hK K
                refine tk 23 ?_
                refine wpAnyH_ready (rs:=[24]) (by kernel_rfl) (by simp) ?_
                refine AllReadyH.cons rfl (λK hK=>?_) ?_
                · go_simp
                  refine hK.out _ _ ?_ (λhHeld=>?_)
                  · (try dsimp only)
                    (first|go_keep|(refine⟨?_,?_,?_,?_,?_⟩<;>(first|rw[hk1]|rw[hk2]|rw[hk3])<;>assumption))
                  · clear hK K
                    refine wpAnyH_ready (rs:=[25]) (by kernel_rfl) (by simp) ?_
                    refine AllReadyH.cons rfl (λK hK=>?_) ?_
                    · (refine step_append_sl rfl _ _ 190 rfl _ i0 _ 6 64 underlying190 hi0 hz0 hz1 hz2 rfl (by decide) (.slice qa q.length qcap) _ _ rfl (Sl.mk HR2.out _) ⟨w2.heap.size,0,none⟩ 1 1 [.int .i64 id,.int .i64 lane,.int .i64 0,.int .i64 c.age,.int .i64 s.ids.length,.slice (some ⟨w.heap.size+1,0,none⟩) es.length es.length] rfl rfl (cells_new w2 _ _) (by simp[Value.oneCell']) q1.out q2.out ?_;intro v3 w3 hown3 hg3 hloc3;obtain⟨a3,c3,rfl⟩:=hown3.form;have x13:=World.grownBy.cell hg3 (jcell_after (below_new w2 _) x12) (λe=>qnw e.symm);have x23:=World.grownBy.cell hg3 (jcell_after (below_new w2 _) x22) (λe=>qnw e.symm);have x33:=World.grownBy.cell hg3 (jcell_after (below_new w2 _) x32) (λe=>qnw e.symm);have HX3:Hid (Bx w3 yb 201 (yardCells c xt s.begun s.now (.slice qa q.length qcap) sb s.outs.length ov)):=(HX2.out.mk _).grown hg3 (λe=>qne e.symm);have y13:w3.cell? ⟨yb,1,none⟩=some (.int .i64 c.age):=HX3.out.cell (i:=1) rfl;have y93:w3.cell? ⟨yb,9,none⟩=some (.slice qa q.length qcap):=HX3.out.cell (i:=9) rfl;have y103:w3.cell? ⟨yb,10,none⟩=some (.map (some sb)):=HX3.out.cell (i:=10) rfl;have f93:=HX3.out.fr 9;have HN3:Hid (Sl w3 193 6 (.slice a3 (q.length+1) c3) (q.length+1) (q.flatMap (cP c.age)++[.int .i64 id,.int .i64 lane,.int .i64 0,.int .i64 c.age,.int .i64 s.ids.length,.slice (some ⟨w.heap.size+1,0,none⟩) es.length es.length])):=hown3;have HG3:Hid (w2.grownBy w3 (Value.slice qa q.length qcap).ownBlock):=(World.grownBy_alloc w2 _ _).trans hg3;have HL3:Hid ((Value.slice a3 (q.length+1) c3).ownBlock=(Value.slice qa q.length qcap).ownBlock\/∃g,(Value.slice a3 (q.length+1) c3).ownBlock=some g/\w2.heap.size<=g):=hloc3.imp (λh=>h) (λ⟨g,h,hle⟩=>⟨g,h,Nat.le_trans (by simp) hle⟩);clear hown3 hg3 hloc3)
                      refine hK.out _ _ ?_ (λhHeld=>?_)
                      · (try dsimp only)
                        (first|go_keep|(refine⟨?_,?_,?_,?_,?_⟩<;>(first|rw[hk1]|rw[hk2]|rw[hk3])<;>assumption))
                      · clear hK K
                        refine tk 26 ?_
                        refine tk 27 ?_
                        refine wpAnyH_ready (rs:=[28]) (by kernel_rfl) (by simp) ?_
                        refine AllReadyH.cons rfl (λK hK=>?_) ?_
                        · go_simp
                          refine hK.out _ _ ?_ (λhHeld=>?_)
                          · (try dsimp only)
                            (first|go_keep|(refine⟨?_,?_,?_,?_,?_⟩<;>(first|rw[hk1]|rw[hk2]|rw[hk3])<;>assumption))
                          · clear hK K
                            refine wpAnyH_done (by kernel_rfl) ?_ _
                            go_wp2_with fail
                            go_meet
                            case rel=>
                              have b3:w.grownBy w3 (Value.slice qa q.length qcap).ownBlock:=((grown_any HG0.out _).trans ⟨HB2.out.os,HB2.out.tape,HB2.out.output,HB2.out.size,λk hk _=>HB2.out.block k hk⟩).trans HG3.out
                              have hsz2:w.heap.size+1<=w2.heap.size:=by
                                have:=HB2.out.size
                                rw[<-hs0];exact this
                              have nn:(Value.slice a3 (q.length+1) c3).ownBlock≠some yb:=by
                                rcases HL3.out with e|⟨g,e,hg⟩
                                · rw[e];exact qne
                                · rw[e];intro h;cases h;omega
                              have ee:Sl w3 49 3 (.slice (some ⟨w.heap.size+1,0,none⟩) es.length es.length) es.length (es.flatMap cE):=HS2.out.grown HG3.out λg hg e=>by
                                obtain rfl:w.heap.size+1=g:=by simpa[Value.ownBlock] using hg
                                have:=Sl.lt HY.out.que.row e
                                omega
                              refine⟨⟨w.heap.size+1,.slice a3 (q.length+1) c3,by omega,?_,?_,?_,?_⟩,?_,?_⟩
                              · have:=HX3.out.set 9 (.slice a3 (q.length+1) c3)
                                rwa [set9] at this
                              · exact Sl.put_last (Sl.grown HN3.out (grown_set _ _ _ _) (λg hg e=>nn (by rw[hg];exact e.symm)))
                              · exact ee.grown (grown_set _ _ _ _) (λg hg e=>by
                                  obtain rfl:w.heap.size+1=g:=by simpa[Value.ownBlock] using hg
                                  injection e with e;omega)
                              · exact HL3.out.imp (λh=>h) (λ⟨g,h,hle⟩=>⟨g,h,by omega⟩)
                              · exact(Only.of_grown b3 (S:=λk=>k=yb\/(Value.slice qa q.length qcap).ownBlock=some k) λk h=>.inr h).set (.inl (.inl rfl))
                              · rw[World.cell?_setCell_other _ _ _ _ (by intro e;injection e with e;omega)];exact x33
                        exact AllReadyH.nil
                    exact AllReadyH.nil
                exact AllReadyH.nil
            exact AllReadyH.nil
        exact AllReadyH.nil
    refine AllReadyH.cons rfl (λK hK=>?_) ?_
    · (refine step_len_subm rfl _ rfl sb s.ids rfl (by first|exact hsub0|exact hsub2) ?_)
      refine hK.out _ _ ?_ (λhHeld=>?_)
      · (try dsimp only)
        (first|go_keep|(refine⟨?_,?_,?_,?_,?_⟩<;>(first|rw[hk1]|rw[hk2]|rw[hk3])<;>assumption))
      · clear hK K
        refine wpAnyH_ready (rs:=[4,22]) (by kernel_rfl) (by simp) ?_
        refine AllReadyH.cons rfl (λK hK=>?_) ?_
        · go_simp
          refine hK.out _ _ ?_ (λhHeld=>?_)
          · (try dsimp only)
            (first|go_keep|(refine⟨?_,?_,?_,?_,?_⟩<;>(first|rw[hk1]|rw[hk2]|rw[hk3])<;>assumption))
          · clear hK K
            refine wpAnyH_ready (rs:=[22]) (by kernel_rfl) (by simp) ?_
            refine AllReadyH.cons rfl (λK hK=>?_) ?_
            · go_simp
              go_wp2_with (go_at_call 167;refine hC.mono ?_;rintro e w2 ⟨rfl,hS2,hb2⟩;have x12:=jcell_after hb2 x1;have x22:=jcell_after hb2 x2;have x32:=jcell_after hb2 x3;have y12:=jcell_after hb2 y1;have y92:=jcell_after hb2 y9;have y92o:∀o,(w2.alloc o).cell? ⟨yb,9,none⟩=some (.slice qa q.length qcap):=(λo=>jcell_after (below_new w2 o) y92);have y102:=jcell_after hb2 y10;have f92:w2.frozen? ⟨yb,9,none⟩=false:=frozen_after hb2 (jcell_lt y9) f9;have hsub2:=hsub0.later hb2;have HS2:Hid (Sl w2 49 3 (.slice (some ⟨w.heap.size+1,0,none⟩) es.length es.length) es.length (es.flatMap cE)):=(by rw[<-hs0];exact hS2);have HB2:Hid (Below w0.drew.heap.size w0.drew w2):=hb2;have HR2:Hid (Sl w2 193 6 (.slice qa q.length qcap) q.length (q.flatMap (cP c.age))):=Sl.kept HR0.out (λg hg=>hb2.block g (Sl.lt HR0.out hg));have HX2:Hid (Bx w2 yb 201 (yardCells c xt s.begun s.now (.slice qa q.length qcap) sb s.outs.length ov)):=(hb2.block yb (jcell_lt y9)).trans HB0.out;clear hS2 hb2)
              refine hK.out _ _ ?_ (λhHeld=>?_)
              · (try dsimp only)
                (first|go_keep|(refine⟨?_,?_,?_,?_,?_⟩<;>(first|rw[hk1]|rw[hk2]|rw[hk3])<;>assumption))
              · clear hK K
                refine tk 23 ?_
                refine wpAnyH_ready (rs:=[24]) (by kernel_rfl) (by simp) ?_
                refine AllReadyH.cons rfl (λK hK=>?_) ?_
                · go_simp
                  refine hK.out _ _ ?_ (λhHeld=>?_)
                  · (try dsimp only)
                    (first|go_keep|(refine⟨?_,?_,?_,?_,?_⟩<;>(first|rw[hk1]|rw[hk2]|rw[hk3])<;>assumption))
                  · clear hK K
                    refine wpAnyH_ready (rs:=[25]) (by kernel_rfl) (by simp) ?_
                    refine AllReadyH.cons rfl (λK hK=>?_) ?_
                    · (refine step_append_sl rfl _ _ 190 rfl _ i0 _ 6 64 underlying190 hi0 hz0 hz1 hz2 rfl (by decide) (.slice qa q.length qcap) _ _ rfl (Sl.mk HR2.out _) ⟨w2.heap.size,0,none⟩ 1 1 [.int .i64 id,.int .i64 lane,.int .i64 0,.int .i64 c.age,.int .i64 s.ids.length,.slice (some ⟨w.heap.size+1,0,none⟩) es.length es.length] rfl rfl (cells_new w2 _ _) (by simp[Value.oneCell']) q1.out q2.out ?_;intro v3 w3 hown3 hg3 hloc3;obtain⟨a3,c3,rfl⟩:=hown3.form;have x13:=World.grownBy.cell hg3 (jcell_after (below_new w2 _) x12) (λe=>qnw e.symm);have x23:=World.grownBy.cell hg3 (jcell_after (below_new w2 _) x22) (λe=>qnw e.symm);have x33:=World.grownBy.cell hg3 (jcell_after (below_new w2 _) x32) (λe=>qnw e.symm);have HX3:Hid (Bx w3 yb 201 (yardCells c xt s.begun s.now (.slice qa q.length qcap) sb s.outs.length ov)):=(HX2.out.mk _).grown hg3 (λe=>qne e.symm);have y13:w3.cell? ⟨yb,1,none⟩=some (.int .i64 c.age):=HX3.out.cell (i:=1) rfl;have y93:w3.cell? ⟨yb,9,none⟩=some (.slice qa q.length qcap):=HX3.out.cell (i:=9) rfl;have y103:w3.cell? ⟨yb,10,none⟩=some (.map (some sb)):=HX3.out.cell (i:=10) rfl;have f93:=HX3.out.fr 9;have HN3:Hid (Sl w3 193 6 (.slice a3 (q.length+1) c3) (q.length+1) (q.flatMap (cP c.age)++[.int .i64 id,.int .i64 lane,.int .i64 0,.int .i64 c.age,.int .i64 s.ids.length,.slice (some ⟨w.heap.size+1,0,none⟩) es.length es.length])):=hown3;have HG3:Hid (w2.grownBy w3 (Value.slice qa q.length qcap).ownBlock):=(World.grownBy_alloc w2 _ _).trans hg3;have HL3:Hid ((Value.slice a3 (q.length+1) c3).ownBlock=(Value.slice qa q.length qcap).ownBlock\/∃g,(Value.slice a3 (q.length+1) c3).ownBlock=some g/\w2.heap.size<=g):=hloc3.imp (λh=>h) (λ⟨g,h,hle⟩=>⟨g,h,Nat.le_trans (by simp) hle⟩);clear hown3 hg3 hloc3)
                      refine hK.out _ _ ?_ (λhHeld=>?_)
                      · (try dsimp only)
                        (first|go_keep|(refine⟨?_,?_,?_,?_,?_⟩<;>(first|rw[hk1]|rw[hk2]|rw[hk3])<;>assumption))
                      · clear hK K
                        refine tk 26 ?_
                        refine tk 27 ?_
                        refine wpAnyH_ready (rs:=[28]) (by kernel_rfl) (by simp) ?_
                        refine AllReadyH.cons rfl (λK hK=>?_) ?_
                        · go_simp
                          refine hK.out _ _ ?_ (λhHeld=>?_)
                          · (try dsimp only)
                            (first|go_keep|(refine⟨?_,?_,?_,?_,?_⟩<;>(first|rw[hk1]|rw[hk2]|rw[hk3])<;>assumption))
                          · clear hK K
                            refine wpAnyH_done (by kernel_rfl) ?_ _
                            go_wp2_with fail
                            go_meet
                            case rel=>
                              have b3:w.grownBy w3 (Value.slice qa q.length qcap).ownBlock:=((grown_any HG0.out _).trans ⟨HB2.out.os,HB2.out.tape,HB2.out.output,HB2.out.size,λk hk _=>HB2.out.block k hk⟩).trans HG3.out
                              have hsz2:w.heap.size+1<=w2.heap.size:=by
                                have:=HB2.out.size
                                rw[<-hs0];exact this
                              have nn:(Value.slice a3 (q.length+1) c3).ownBlock≠some yb:=by
                                rcases HL3.out with e|⟨g,e,hg⟩
                                · rw[e];exact qne
                                · rw[e];intro h;cases h;omega
                              have ee:Sl w3 49 3 (.slice (some ⟨w.heap.size+1,0,none⟩) es.length es.length) es.length (es.flatMap cE):=HS2.out.grown HG3.out λg hg e=>by
                                obtain rfl:w.heap.size+1=g:=by simpa[Value.ownBlock] using hg
                                have:=Sl.lt HY.out.que.row e
                                omega
                              refine⟨⟨w.heap.size+1,.slice a3 (q.length+1) c3,by omega,?_,?_,?_,?_⟩,?_,?_⟩
                              · have:=HX3.out.set 9 (.slice a3 (q.length+1) c3)
                                rwa [set9] at this
                              · exact Sl.put_last (Sl.grown HN3.out (grown_set _ _ _ _) (λg hg e=>nn (by rw[hg];exact e.symm)))
                              · exact ee.grown (grown_set _ _ _ _) (λg hg e=>by
                                  obtain rfl:w.heap.size+1=g:=by simpa[Value.ownBlock] using hg
                                  injection e with e;omega)
                              · exact HL3.out.imp (λh=>h) (λ⟨g,h,hle⟩=>⟨g,h,by omega⟩)
                              · exact(Only.of_grown b3 (S:=λk=>k=yb\/(Value.slice qa q.length qcap).ownBlock=some k) λk h=>.inr h).set (.inl (.inl rfl))
                              · rw[World.cell?_setCell_other _ _ _ _ (by intro e;injection e with e;omega)];exact x33
                        exact AllReadyH.nil
                    exact AllReadyH.nil
                exact AllReadyH.nil
            exact AllReadyH.nil
        refine AllReadyH.cons rfl (λK hK=>?_) ?_
        · go_simp
          go_wp2_with (go_at_call 167;refine hC.mono ?_;rintro e w2 ⟨rfl,hS2,hb2⟩;have x12:=jcell_after hb2 x1;have x22:=jcell_after hb2 x2;have x32:=jcell_after hb2 x3;have y12:=jcell_after hb2 y1;have y92:=jcell_after hb2 y9;have y92o:∀o,(w2.alloc o).cell? ⟨yb,9,none⟩=some (.slice qa q.length qcap):=(λo=>jcell_after (below_new w2 o) y92);have y102:=jcell_after hb2 y10;have f92:w2.frozen? ⟨yb,9,none⟩=false:=frozen_after hb2 (jcell_lt y9) f9;have hsub2:=hsub0.later hb2;have HS2:Hid (Sl w2 49 3 (.slice (some ⟨w.heap.size+1,0,none⟩) es.length es.length) es.length (es.flatMap cE)):=(by rw[<-hs0];exact hS2);have HB2:Hid (Below w0.drew.heap.size w0.drew w2):=hb2;have HR2:Hid (Sl w2 193 6 (.slice qa q.length qcap) q.length (q.flatMap (cP c.age))):=Sl.kept HR0.out (λg hg=>hb2.block g (Sl.lt HR0.out hg));have HX2:Hid (Bx w2 yb 201 (yardCells c xt s.begun s.now (.slice qa q.length qcap) sb s.outs.length ov)):=(hb2.block yb (jcell_lt y9)).trans HB0.out;clear hS2 hb2)
          refine hK.out _ _ ?_ (λhHeld=>?_)
          · (try dsimp only)
            (first|go_keep|(refine⟨?_,?_,?_,?_,?_⟩<;>(first|rw[hk1]|rw[hk2]|rw[hk3])<;>assumption))
          · clear hK K
            refine tk 23 ?_
            refine wpAnyH_ready (rs:=[4,24]) (by kernel_rfl) (by simp) ?_
            refine AllReadyH.cons rfl (λK hK=>?_) ?_
            · go_simp
              refine hK.out _ _ ?_ (λhHeld=>?_)
              · (try dsimp only)
                (first|go_keep|(refine⟨?_,?_,?_,?_,?_⟩<;>(first|rw[hk1]|rw[hk2]|rw[hk3])<;>assumption))
              · clear hK K
                refine wpAnyH_ready (rs:=[24]) (by kernel_rfl) (by simp) ?_
                refine AllReadyH.cons rfl (λK hK=>?_) ?_
                · go_simp
                  refine hK.out _ _ ?_ (λhHeld=>?_)
                  · (try dsimp only)
                    (first|go_keep|(refine⟨?_,?_,?_,?_,?_⟩<;>(first|rw[hk1]|rw[hk2]|rw[hk3])<;>assumption))
                  · clear hK K
                    refine wpAnyH_ready (rs:=[25]) (by kernel_rfl) (by simp) ?_
                    refine AllReadyH.cons rfl (λK hK=>?_) ?_
                    · (refine step_append_sl rfl _ _ 190 rfl _ i0 _ 6 64 underlying190 hi0 hz0 hz1 hz2 rfl (by decide) (.slice qa q.length qcap) _ _ rfl (Sl.mk HR2.out _) ⟨w2.heap.size,0,none⟩ 1 1 [.int .i64 id,.int .i64 lane,.int .i64 0,.int .i64 c.age,.int .i64 s.ids.length,.slice (some ⟨w.heap.size+1,0,none⟩) es.length es.length] rfl rfl (cells_new w2 _ _) (by simp[Value.oneCell']) q1.out q2.out ?_;intro v3 w3 hown3 hg3 hloc3;obtain⟨a3,c3,rfl⟩:=hown3.form;have x13:=World.grownBy.cell hg3 (jcell_after (below_new w2 _) x12) (λe=>qnw e.symm);have x23:=World.grownBy.cell hg3 (jcell_after (below_new w2 _) x22) (λe=>qnw e.symm);have x33:=World.grownBy.cell hg3 (jcell_after (below_new w2 _) x32) (λe=>qnw e.symm);have HX3:Hid (Bx w3 yb 201 (yardCells c xt s.begun s.now (.slice qa q.length qcap) sb s.outs.length ov)):=(HX2.out.mk _).grown hg3 (λe=>qne e.symm);have y13:w3.cell? ⟨yb,1,none⟩=some (.int .i64 c.age):=HX3.out.cell (i:=1) rfl;have y93:w3.cell? ⟨yb,9,none⟩=some (.slice qa q.length qcap):=HX3.out.cell (i:=9) rfl;have y103:w3.cell? ⟨yb,10,none⟩=some (.map (some sb)):=HX3.out.cell (i:=10) rfl;have f93:=HX3.out.fr 9;have HN3:Hid (Sl w3 193 6 (.slice a3 (q.length+1) c3) (q.length+1) (q.flatMap (cP c.age)++[.int .i64 id,.int .i64 lane,.int .i64 0,.int .i64 c.age,.int .i64 s.ids.length,.slice (some ⟨w.heap.size+1,0,none⟩) es.length es.length])):=hown3;have HG3:Hid (w2.grownBy w3 (Value.slice qa q.length qcap).ownBlock):=(World.grownBy_alloc w2 _ _).trans hg3;have HL3:Hid ((Value.slice a3 (q.length+1) c3).ownBlock=(Value.slice qa q.length qcap).ownBlock\/∃g,(Value.slice a3 (q.length+1) c3).ownBlock=some g/\w2.heap.size<=g):=hloc3.imp (λh=>h) (λ⟨g,h,hle⟩=>⟨g,h,Nat.le_trans (by simp) hle⟩);clear hown3 hg3 hloc3)
                      refine hK.out _ _ ?_ (λhHeld=>?_)
                      · (try dsimp only)
                        (first|go_keep|(refine⟨?_,?_,?_,?_,?_⟩<;>(first|rw[hk1]|rw[hk2]|rw[hk3])<;>assumption))
                      · clear hK K
                        refine tk 26 ?_
                        refine tk 27 ?_
                        refine wpAnyH_ready (rs:=[28]) (by kernel_rfl) (by simp) ?_
                        refine AllReadyH.cons rfl (λK hK=>?_) ?_
                        · go_simp
                          refine hK.out _ _ ?_ (λhHeld=>?_)
                          · (try dsimp only)
                            (first|go_keep|(refine⟨?_,?_,?_,?_,?_⟩<;>(first|rw[hk1]|rw[hk2]|rw[hk3])<;>assumption))
                          · clear hK K
                            refine wpAnyH_done (by kernel_rfl) ?_ _
                            go_wp2_with fail
                            go_meet
                            case rel=>
                              have b3:w.grownBy w3 (Value.slice qa q.length qcap).ownBlock:=((grown_any HG0.out _).trans ⟨HB2.out.os,HB2.out.tape,HB2.out.output,HB2.out.size,λk hk _=>HB2.out.block k hk⟩).trans HG3.out
                              have hsz2:w.heap.size+1<=w2.heap.size:=by
                                have:=HB2.out.size
                                rw[<-hs0];exact this
                              have nn:(Value.slice a3 (q.length+1) c3).ownBlock≠some yb:=by
                                rcases HL3.out with e|⟨g,e,hg⟩
                                · rw[e];exact qne
                                · rw[e];intro h;cases h;omega
                              have ee:Sl w3 49 3 (.slice (some ⟨w.heap.size+1,0,none⟩) es.length es.length) es.length (es.flatMap cE):=HS2.out.grown HG3.out λg hg e=>by
                                obtain rfl:w.heap.size+1=g:=by simpa[Value.ownBlock] using hg
                                have:=Sl.lt HY.out.que.row e
                                omega
                              refine⟨⟨w.heap.size+1,.slice a3 (q.length+1) c3,by omega,?_,?_,?_,?_⟩,?_,?_⟩
                              · have:=HX3.out.set 9 (.slice a3 (q.length+1) c3)
                                rwa [set9] at this
                              · exact Sl.put_last (Sl.grown HN3.out (grown_set _ _ _ _) (λg hg e=>nn (by rw[hg];exact e.symm)))
                              · exact ee.grown (grown_set _ _ _ _) (λg hg e=>by
                                  obtain rfl:w.heap.size+1=g:=by simpa[Value.ownBlock] using hg
                                  injection e with e;omega)
                              · exact HL3.out.imp (λh=>h) (λ⟨g,h,hle⟩=>⟨g,h,by omega⟩)
                              · exact(Only.of_grown b3 (S:=λk=>k=yb\/(Value.slice qa q.length qcap).ownBlock=some k) λk h=>.inr h).set (.inl (.inl rfl))
                              · rw[World.cell?_setCell_other _ _ _ _ (by intro e;injection e with e;omega)];exact x33
                        exact AllReadyH.nil
                    exact AllReadyH.nil
                exact AllReadyH.nil
            refine AllReadyH.cons rfl (λK hK=>?_) ?_
            · go_simp
              refine hK.out _ _ ?_ (λhHeld=>?_)
              · (try dsimp only)
                (first|go_keep|(refine⟨?_,?_,?_,?_,?_⟩<;>(first|rw[hk1]|rw[hk2]|rw[hk3])<;>assumption))
              · clear hK K
                refine wpAnyH_ready (rs:=[4]) (by kernel_rfl) (by simp) ?_
                refine AllReadyH.cons rfl (λK hK=>?_) ?_
                · go_simp
                  refine hK.out _ _ ?_ (λhHeld=>?_)
                  · (try dsimp only)
                    (first|go_keep|(refine⟨?_,?_,?_,?_,?_⟩<;>(first|rw[hk1]|rw[hk2]|rw[hk3])<;>assumption))
                  · clear hK K
                    refine wpAnyH_ready (rs:=[25]) (by kernel_rfl) (by simp) ?_
                    refine AllReadyH.cons rfl (λK hK=>?_) ?_
                    · (refine step_append_sl rfl _ _ 190 rfl _ i0 _ 6 64 underlying190 hi0 hz0 hz1 hz2 rfl (by decide) (.slice qa q.length qcap) _ _ rfl (Sl.mk HR2.out _) ⟨w2.heap.size,0,none⟩ 1 1 [.int .i64 id,.int .i64 lane,.int .i64 0,.int .i64 c.age,.int .i64 s.ids.length,.slice (some ⟨w.heap.size+1,0,none⟩) es.length es.length] rfl rfl (cells_new w2 _ _) (by simp[Value.oneCell']) q1.out q2.out ?_;intro v3 w3 hown3 hg3 hloc3;obtain⟨a3,c3,rfl⟩:=hown3.form;have x13:=World.grownBy.cell hg3 (jcell_after (below_new w2 _) x12) (λe=>qnw e.symm);have x23:=World.grownBy.cell hg3 (jcell_after (below_new w2 _) x22) (λe=>qnw e.symm);have x33:=World.grownBy.cell hg3 (jcell_after (below_new w2 _) x32) (λe=>qnw e.symm);have HX3:Hid (Bx w3 yb 201 (yardCells c xt s.begun s.now (.slice qa q.length qcap) sb s.outs.length ov)):=(HX2.out.mk _).grown hg3 (λe=>qne e.symm);have y13:w3.cell? ⟨yb,1,none⟩=some (.int .i64 c.age):=HX3.out.cell (i:=1) rfl;have y93:w3.cell? ⟨yb,9,none⟩=some (.slice qa q.length qcap):=HX3.out.cell (i:=9) rfl;have y103:w3.cell? ⟨yb,10,none⟩=some (.map (some sb)):=HX3.out.cell (i:=10) rfl;have f93:=HX3.out.fr 9;have HN3:Hid (Sl w3 193 6 (.slice a3 (q.length+1) c3) (q.length+1) (q.flatMap (cP c.age)++[.int .i64 id,.int .i64 lane,.int .i64 0,.int .i64 c.age,.int .i64 s.ids.length,.slice (some ⟨w.heap.size+1,0,none⟩) es.length es.length])):=hown3;have HG3:Hid (w2.grownBy w3 (Value.slice qa q.length qcap).ownBlock):=(World.grownBy_alloc w2 _ _).trans hg3;have HL3:Hid ((Value.slice a3 (q.length+1) c3).ownBlock=(Value.slice qa q.length qcap).ownBlock\/∃g,(Value.slice a3 (q.length+1) c3).ownBlock=some g/\w2.heap.size<=g):=hloc3.imp (λh=>h) (λ⟨g,h,hle⟩=>⟨g,h,Nat.le_trans (by simp) hle⟩);clear hown3 hg3 hloc3)
                      refine hK.out _ _ ?_ (λhHeld=>?_)
                      · (try dsimp only)
                        (first|go_keep|(refine⟨?_,?_,?_,?_,?_⟩<;>(first|rw[hk1]|rw[hk2]|rw[hk3])<;>assumption))
                      · clear hK K
                        refine tk 26 ?_
                        refine tk 27 ?_
                        refine wpAnyH_ready (rs:=[28]) (by kernel_rfl) (by simp) ?_
                        refine AllReadyH.cons rfl (λK hK=>?_) ?_
                        · go_simp
                          refine hK.out _ _ ?_ (λhHeld=>?_)
                          · (try dsimp only)
                            (first|go_keep|(refine⟨?_,?_,?_,?_,?_⟩<;>(first|rw[hk1]|rw[hk2]|rw[hk3])<;>assumption))
                          · clear hK K
                            refine wpAnyH_done (by kernel_rfl) ?_ _
                            go_wp2_with fail
                            go_meet
                            case rel=>
                              have b3:w.grownBy w3 (Value.slice qa q.length qcap).ownBlock:=((grown_any HG0.out _).trans ⟨HB2.out.os,HB2.out.tape,HB2.out.output,HB2.out.size,λk hk _=>HB2.out.block k hk⟩).trans HG3.out
                              have hsz2:w.heap.size+1<=w2.heap.size:=by
                                have:=HB2.out.size
                                rw[<-hs0];exact this
                              have nn:(Value.slice a3 (q.length+1) c3).ownBlock≠some yb:=by
                                rcases HL3.out with e|⟨g,e,hg⟩
                                · rw[e];exact qne
                                · rw[e];intro h;cases h;omega
                              have ee:Sl w3 49 3 (.slice (some ⟨w.heap.size+1,0,none⟩) es.length es.length) es.length (es.flatMap cE):=HS2.out.grown HG3.out λg hg e=>by
                                obtain rfl:w.heap.size+1=g:=by simpa[Value.ownBlock] using hg
                                have:=Sl.lt HY.out.que.row e
                                omega
                              refine⟨⟨w.heap.size+1,.slice a3 (q.length+1) c3,by omega,?_,?_,?_,?_⟩,?_,?_⟩
                              · have:=HX3.out.set 9 (.slice a3 (q.length+1) c3)
                                rwa [set9] at this
                              · exact Sl.put_last (Sl.grown HN3.out (grown_set _ _ _ _) (λg hg e=>nn (by rw[hg];exact e.symm)))
                              · exact ee.grown (grown_set _ _ _ _) (λg hg e=>by
                                  obtain rfl:w.heap.size+1=g:=by simpa[Value.ownBlock] using hg
                                  injection e with e;omega)
                              · exact HL3.out.imp (λh=>h) (λ⟨g,h,hle⟩=>⟨g,h,by omega⟩)
                              · exact(Only.of_grown b3 (S:=λk=>k=yb\/(Value.slice qa q.length qcap).ownBlock=some k) λk h=>.inr h).set (.inl (.inl rfl))
                              · rw[World.cell?_setCell_other _ _ _ _ (by intro e;injection e with e;omega)];exact x33
                        exact AllReadyH.nil
                    exact AllReadyH.nil
                exact AllReadyH.nil
            exact AllReadyH.nil
        exact AllReadyH.nil
    exact AllReadyH.nil
  case rest=>
    obtain⟨⟨ge,qv',hge,hB,hR,hE,hL⟩,hO,hX⟩:=hcut
    rename World=>wz
    have h:=HY.out
    have hsby:sb≠yb:=h.sub.ne_box h.box
    have hOT:OnlyT w wz S [201,193]:=OnlyT.mk hO λk hk e=>by
      rcases e with rfl|e
      · exact⟨h.fy,_,by simp,h.box.ty⟩
      · exact⟨h.que.fq k e,_,by simp,h.que.row.ty e⟩
    have hsz:Subm wz sb s.ids:=hOT.sub h.sub (by decide)
    obtain⟨D,hm1,hm2,hm3⟩:=hsz
    obtain⟨w4,hrun,ho4,hg4⟩:=World.ownsMap.update (w:=wz.drew) hm1 lawI underS (by unfold maxLen;omega) (keyI (n:=id) (by omega)) (val:=.agg #[]) unitElem_mk
    have HU:Hid (Subm w4 sb (s.ids++[id])):=Subm.put hm1.isMap (hm1.tidy lawI) hm2 hm3 hnew ho4
    have z10:wz.cell? ⟨yb,10,none⟩=some (.map (some sb)):=hB.cell (i:=10) rfl
    have HM:Hid (Subm wz sb s.ids):=⟨D,hm1,hm2,hm3⟩
    have HG4:Hid (OnlyT wz w4 S [tMap]):=OnlyT.mk (Only.of_grown (⟨hg4.os,hg4.tape,hg4.output,hg4.size,hg4.block⟩:wz.grownBy w4 (some sb)) (S:=λk=>k=sb) λk hk=>by cases hk;rfl) λk hk e=>by
      subst e
      exact⟨h.fs,_,by simp,HM.out.ty⟩
    have HN4:Hid (∀k,k<wz.heap.size->k≠sb->w4.heap[k]? =wz.heap[k]?):=λk hk hne=>hg4.block k hk (by simpa using hne)
    have HB:Hid (Bx wz yb 201 (yardCells c xt s.begun s.now qv' sb s.outs.length ov)):=hB
    have HR:Hid (Sl wz 193 6 qv' (q.length+1) ((q++[((⟨id,lane,0,s.ids.length,es⟩:Ch),(.slice (some ⟨ge,0,none⟩) es.length es.length:Value))]).flatMap (cP c.age))):=hR
    have HE:Hid (Sl wz 49 3 (.slice (some ⟨ge,0,none⟩) es.length es.length) es.length (es.flatMap cE)):=hE
    have HL:Hid (qv'.ownBlock=(Value.slice qa q.length qcap).ownBlock\/∃g,qv'.ownBlock=some g/\w.heap.size<=g):=hL
    have HO:Hid (OnlyT w wz S [201,193]):=hOT
    clear hB hR hE hL hO hOT hm1 hm2 hm3 ho4 hg4 HB0 HR0 HG0 hC hsub0 h x1 x2 x3 y1 y9 y10 f9 hk1 hk2 hk3
    go_wp2_with fail
    go_region_law (fail)
    all_goals
      have h:=HY.out
      obtain⟨tl,zs,hr⟩:=h.rest
      have O4:OnlyT w w4 S [201,193,tMap]:=HO.out.trans HG4.out (Plus.old w)
      have hM:FilesMap w4 xt.tip xt.n s.tip:=(HO.out.map hr.map (by decide)).same (HN4.out _ (HO.out.map hr.map (by decide)).lt h.nt.symm)
      refine bodyPost_end (v:=.tuple #[]) (results_none (by kernel_rfl) _ _ _) rfl ⟨rfl,⟨q++[((⟨id,lane,0,s.ids.length,es⟩:Ch),(.slice (some ⟨ge,0,none⟩) es.length es.length:Value))],sb,qv',ov,xt,?_,HX.out⟩,O4.only⟩
      refine⟨by rw[List.map_append];exact h.qs.append_right _,HG4.out.bx HB.out (by decide),⟨?_,λy hy=>?_,λg hg=>?_,λy hy g hg=>?_⟩,HU.out,h.outs.keptT O4.k (Plus.old w) (by decide),.inl h.fy,.inl h.fs,⟨tl,zs,hr.keptT O4.k (Plus.old w) h.np rfl rfl rfl (by simp) (by unfold NoRest NoSeg;decide) hM⟩,h.nt⟩
      · rw[List.length_append]
        exact HG4.out.sl HR.out (by decide)
      · rcases List.mem_append.1 hy with hy|hy
        · exact O4.sl (h.que.eds y hy) (by decide)
        · obtain rfl:=List.mem_singleton.1 hy
          exact HG4.out.sl HE.out (by decide)
      · rcases HL.out with e|⟨g',e,hg'⟩
        · rw[e] at hg;exact .inl (h.que.fq g hg)
        · rw[e] at hg;cases hg;exact .inr hg'
      · rcases List.mem_append.1 hy with hy|hy
        · exact .inl (h.que.fe y hy g hg)
        · obtain rfl:=List.mem_singleton.1 hy
          cases hg;exact .inr hge
end
end Go.Proofs.YtgamgomepdfgdaaGreat
