import Derived.Test.YtgamgomepdfgdaaGreatFM18
import Derived.Test.YtgamgomepdfgdaaGreatFM17
set_option maxRecDepth 100000
set_option maxHeartbeats 8000000
namespace Go.Proofs.YtgamgomepdfgdaaGreat
open Go.RowKit Go.Proofs.Tryz
def TornOf (T:List UInt8):Prop:=∃(r:Rc) (m:Nat),r.ok/\m<9+r.body.length/\T=(recB r.kind r.body).take m
def allB (rs:List Rc):List UInt8:=rs.flatMap Rc.bytes
section
open Go.Maps
theorem step_len_subm {ops:Array Oper}{o:Oper}{a:Act}{w:World}{K:Act->World->Prop}{Q:Exit->Act->World->Prop}{E:Prop}(hg:o.guard=none)(m:Operand)(ho:o.op=Op.call {callee:=Callee.builtin Builtin.len,args:=#[m],argTypes:=#[194]})(sb:Nat)(ids:List Nat)(hm:a.eval m=.map (some sb))(hs:Subm w sb ids)(hK:K (a.put o.dst (.int .i64 ids.length)) w):
    if Region.wanted o (yielded ops a.tmps)=true then Oper.wp prog o a w K Q else E:=by
  have hw:Region.wanted o (yielded ops a.tmps)=true:=by simp[Region.wanted,hg]
  rw[if_pos hw]
  obtain⟨D,h1,h2,h3⟩:=hs
  rw[<-h2] at hK
  unfold Oper.wp
  simp[execOp,ho,resolve,invoke,builtin,hm,h1.len underS o.type,Result.andThen]
  exact hK
theorem Subm.later {w w':World}{sb:Nat}{ids:List Nat}(h:Subm w sb ids)(hb:Below w.heap.size w w'):Subm w' sb ids:=h.same (hb.block sb h.lt)
theorem Sl.put_last {w:World}{age n:Nat}{v:Value}{q:List Pw}{x:Pw}(h:Sl w 193 6 v n (q.flatMap (cP age)++cP age x)):Sl w 193 6 v n ((q++[x]).flatMap (cP age)):=by
  rw[List.flatMap_append];simpa using h
def recC (kind lane:Nat)(ea:Option Addr)(en ec id:Nat)(pass:Bool)(num:Nat):Array Value:=#[.int .i64 kind,.int .i64 lane,.slice ea en ec,.int .i64 id,.bool pass,.int .i64 num]
structure Queued (w wz:World)(yb id lane:Nat)(xt:Xt)(bg nw:Nat)(c:Cfg)(es:List Ed)(q:List Pw)(sb no ni:Nat)(qv ov:Value):Prop where
  ex:∃ge qv',w.heap.size<=ge/\Bx wz yb 201 (yardCells c xt bg nw qv' sb no ov)/\Sl wz 193 6 qv' (q.length+1) ((q++[((⟨id,lane,0,ni,es⟩:Ch),(.slice (some ⟨ge,0,none⟩) es.length es.length:Value))]).flatMap (cP c.age))/\Sl wz 49 3 (.slice (some ⟨ge,0,none⟩) es.length es.length) es.length (es.flatMap cE)/\(qv'.ownBlock=qv.ownBlock\/∃g,qv'.ownBlock=some g/\w.heap.size<=g)
  only:Only w wz (λk=>k=yb\/qv.ownBlock=some k)
  box:wz.cell? ⟨w.heap.size,3,none⟩=some (.int .i64 id)
set_option linter.unusedSimpArgs false in
theorem ySubmit (S:Nat->Prop)(yb mb n0 kind id lane num:Nat)(pass:Bool)(b eo ec:Nat)(es:List Ed)(c:Cfg)(s:Ts)(w:World)(hY:YardAt w S yb mb n0 c s)(hn:s.queue.length<=16)(hsm:Small es)(hid:id<=1000000)(hnew:id∉s.ids)(hi:s.ids.length<1048576000)(hlt:b<w.heap.size)(h0:∀i (h:i<es.length),w.cell? ⟨b,eo+i*3,none⟩=some (.string es[i].1))(h1:∀i (h:i<es.length),w.cell? ⟨b,eo+i*3+1,none⟩=some (.string es[i].2.1))(h2:∀i (h:i<es.length),w.cell? ⟨b,eo+i*3+2,none⟩=some (.string es[i].2.2)):
    Calls prog 115 #[.pointer (some ⟨yb,0,none⟩),.agg (recC kind lane (some ⟨b,eo,none⟩) es.length ec id pass num)] w λe w'=>e=.returned (.tuple #[])/\YardAt w' (Plus S w) yb mb n0 c {s with ids:=s.ids++[id],queue:=s.queue++[⟨id,lane,0,s.ids.length,es⟩]}/\Only w w' S:=by
  obtain⟨q,sb,qv,ov,xt,h,hx⟩:=hY
  have HX:Hid (xt.n<=n0+4*s.outs.length):=hx
  obtain⟨i0,hi0,hz0,hz1,hz2⟩:=info_parts info_pw
  have hq16:q.length<=16:=by rw[h.qlen];exact hn
  have HY:Hid (YardIs w S yb mb n0 c s q sb qv ov xt):=h
  obtain⟨qa,qcap,rfl⟩:=h.que.row.form
  have hyl:=h.box.lt
  have hyw:yb≠w.heap.size:=by omega
  have hwy:w.heap.size≠yb:=by omega
  have hC:=copyEdits_sl es b eo ec (w.alloc (.cells (recC kind lane (some ⟨b,eo,none⟩) es.length ec id pass num) 140)).drew (by simp;omega) (λi hi=>jcell_after (below_new_drew w _) (h0 i hi)) (λi hi=>jcell_after (below_new_drew w _) (h1 i hi)) (λi hi=>jcell_after (below_new_drew w _) (h2 i hi)) hsm.1 (λx hx=>by
    obtain⟨k1,k2,k3⟩:=hsm.2 x hx
    omega)
  have qne:=h.que.row.ne h.box (by decide)
  have qnw:(Value.slice qa q.length qcap).ownBlock≠some w.heap.size:=λe=>by
    have:=h.que.row.lt e
    omega
  have hsub0:Subm (w.alloc (.cells (recC kind lane (some ⟨b,eo,none⟩) es.length ec id pass num) 140)).drew sb s.ids:=h.sub.later (below_new_drew w _)
  have q1:Hid (q.length+1<=maxLen):=by show _<=_;unfold maxLen;omega
  have q2:Hid ((q.length+1)*64<=140737488355328):=by show _<=_;omega
  have B0:Bx (w.alloc (.cells (recC kind lane (some ⟨b,eo,none⟩) es.length ec id pass num) 140)) yb 201 (yardCells c xt s.begun s.now (.slice qa q.length qcap) sb s.outs.length ov):=h.box.mk _
  have HB0:Hid (Bx (w.alloc (.cells (recC kind lane (some ⟨b,eo,none⟩) es.length ec id pass num) 140)) yb 201 (yardCells c xt s.begun s.now (.slice qa q.length qcap) sb s.outs.length ov)):=B0
  have HR0:Hid (Sl (w.alloc (.cells (recC kind lane (some ⟨b,eo,none⟩) es.length ec id pass num) 140)) 193 6 (.slice qa q.length qcap) q.length (q.flatMap (cP c.age))):=h.que.row.mk _
  have HG0:Hid (w.grownBy (w.alloc (.cells (recC kind lane (some ⟨b,eo,none⟩) es.length ec id pass num) 140)) none):=World.grownBy_alloc _ _ _
  have X0:Bx (w.alloc (.cells (recC kind lane (some ⟨b,eo,none⟩) es.length ec id pass num) 140)) w.heap.size 140 (recC kind lane (some ⟨b,eo,none⟩) es.length ec id pass num):=Bx.new _ _ _
  clear h hx h0 h1 h2 hsm
  unfold recC
  go_enter func115,ntmps115
  go_upto_region 1 with fail
  unfold recC at hC hsub0 B0 HB0 HR0 HG0 X0
  generalize hw0:w.alloc (.cells #[.int .i64 kind,.int .i64 lane,.slice (some ⟨b,eo,none⟩) es.length ec,.int .i64 id,.bool pass,.int .i64 num] 140)=w0 at *
  have hs0:w0.heap.size=w.heap.size+1:=by rw[<-hw0];simp
  clear hw0
  have x1:w0.cell? ⟨w.heap.size,1,none⟩=some (.int .i64 lane):=X0.cell (i:=1) rfl
  have x2:w0.cell? ⟨w.heap.size,2,none⟩=some (.slice (some ⟨b,eo,none⟩) es.length ec):=X0.cell (i:=2) rfl
  have x3:w0.cell? ⟨w.heap.size,3,none⟩=some (.int .i64 id):=X0.cell (i:=3) rfl
  have y1:w0.cell? ⟨yb,1,none⟩=some (.int .i64 c.age):=B0.cell (i:=1) rfl
  have y9:w0.cell? ⟨yb,9,none⟩=some (.slice qa q.length qcap):=B0.cell (i:=9) rfl
  have y10:w0.cell? ⟨yb,10,none⟩=some (.map (some sb)):=B0.cell (i:=10) rfl
  have f9:=B0.fr 9
  have hk1:∀(W:World) (v:Value) (o:Nat),(W.setCell ⟨yb,9,none⟩ v).cell? ⟨w.heap.size,o,none⟩=W.cell? ⟨w.heap.size,o,none⟩:=λW v o=>World.cell?_setCell_other _ _ _ _ (by intro e;injection e with e1 e2;omega)
  have hk2:∀(W:World) (v:Value),(W.setCell ⟨yb,9,none⟩ v).cell? ⟨yb,1,none⟩=W.cell? ⟨yb,1,none⟩:=λW v=>World.cell?_setCell_other _ _ _ _ (by intro e;injection e with e1 e2;omega)
  have hk3:∀(W:World) (v:Value),(W.setCell ⟨yb,9,none⟩ v).cell? ⟨yb,10,none⟩=W.cell? ⟨yb,10,none⟩:=λW v=>World.cell?_setCell_other _ _ _ _ (by intro e;injection e with e1 e2;omega)
  clear B0 X0
  go_cut [31] from 4 (λ_ wz=>Queued w wz yb id lane xt s.begun s.now c es q sb s.outs.length s.ids.length (.slice qa q.length qcap) ov)
  case first=>
    refine wp_region_held_drew (S:=(λw'=>w'.cell? ⟨w.heap.size,1,none⟩=some (.int .i64 lane)/\w'.cell? ⟨w.heap.size,2,none⟩=some (.slice (some ⟨b,eo,none⟩) es.length ec)/\w'.cell? ⟨w.heap.size,3,none⟩=some (.int .i64 id)/\w'.cell? ⟨yb,1,none⟩=some (.int .i64 c.age)/\w'.cell? ⟨yb,10,none⟩=some (.map (some sb)))) (by kernel_rfl) ?_ (λhHeld=>?_)
    · (try dsimp only)
      (first|go_keep|(refine⟨?_,?_,?_,?_,?_⟩<;>(first|rw[hk1]|rw[hk2]|rw[hk3])<;>assumption))
    refine tk 0 ?_
    refine tk 1 ?_
    refine tk 2 ?_
    refine tk 3 ?_
    refine tk 5 ?_
    refine tk 6 ?_
    refine tk 7 ?_
    refine tk 8 ?_
    refine tk 9 ?_
    refine tk 10 ?_
    refine tk 11 ?_
    refine tk 12 ?_
    refine tk 13 ?_
    refine tk 14 ?_
    refine tk 15 ?_
    refine tk 16 ?_
    refine tk 17 ?_
    refine tk 18 ?_
    refine tk 20 ?_
    refine tk 21 ?_
    refine wpAnyH_ready (rs:=[4,19]) (by kernel_rfl) (by simp) ?_
    refine AllReadyH.cons rfl (λK hK=>?_) ?_
    · go_simp
      refine hK.out _ _ ?_ (λhHeld=>?_)
      · (try dsimp only)
        (first|go_keep|(refine⟨?_,?_,?_,?_,?_⟩<;>(first|rw[hk1]|rw[hk2]|rw[hk3])<;>assumption))
      · clear hK K
        refine wpAnyH_ready (rs:=[19]) (by kernel_rfl) (by simp) ?_
        refine AllReadyH.cons rfl (λK hK=>?_) ?_
        · (refine step_len_subm rfl _ rfl sb s.ids rfl (by first|exact hsub0|exact hsub2) ?_)
          refine hK.out _ _ ?_ (λhHeld=>?_)
          · (try dsimp only)
            (first|go_keep|(refine⟨?_,?_,?_,?_,?_⟩<;>(first|rw[hk1]|rw[hk2]|rw[hk3])<;>assumption))
          · clear hK K
            refine wpAnyH_ready (rs:=[22]) (by kernel_rfl) (by simp) ?_
            refine AllReadyH.cons rfl (λK hK=>?_) ?_
            · go_simp
              go_wp2_with (go_at_call 167;refine hC.mono ?_;rintro e w2 ⟨rfl,hS2,hb2⟩;have x12:=jcell_after hb2 x1;have x22:=jcell_after hb2 x2;have x32:=jcell_after hb2 x3;have y12:=jcell_after hb2 y1;have y92:=jcell_after hb2 y9;have y92o:∀o,(w2.alloc o).cell? ⟨yb,9,none⟩=some (.slice qa q.length qcap):=(λo=>jcell_after (below_new w2 o) y92);have y102:=jcell_after hb2 y10;have f92:w2.frozen? ⟨yb,9,none⟩=false:=frozen_after hb2 (jcell_lt y9) f9;have hsub2:=hsub0.later hb2;have HS2:Hid (Sl w2 49 3 (.slice (some ⟨w.heap.size+1,0,none⟩) es.length es.length) es.length (es.flatMap cE)):=(by rw[<-hs0];exact hS2);have HB2:Hid (Below w0.drew.heap.size w0.drew w2):=hb2;have HR2:Hid (Sl w2 193 6 (.slice qa q.length qcap) q.length (q.flatMap (cP c.age))):=Sl.kept HR0.out (λg hg=>hb2.block g (Sl.lt HR0.out hg));have HX2:Hid (Bx w2 yb 201 (yardCells c xt s.begun s.now (.slice qa q.length qcap) sb s.outs.length ov)):=(hb2.block yb (jcell_lt y9)).trans HB0.out;clear hS2 hb2)
              refine hK.out _ _ ?_ (λhHeld=>?_)
              · (try dsimp only)
                (first|go_keep|(refine⟨?_,?_,?_,?_,?_⟩<;>(first|rw[hk1]|rw[hk2]|rw[hk3])<;>assumption))
              · clear hK K
                refine tk 23 ?_
                refine wpAnyH_ready (rs:=[24]) (by kernel_rfl) (by simp) ?_
                refine AllReadyH.cons rfl (λK hK=>?_) ?_
                · go_simp
                  refine hK.out _ _ ?_ (λhHeld=>?_)
                  · (try dsimp only)
                    (first|go_keep|(refine⟨?_,?_,?_,?_,?_⟩<;>(first|rw[hk1]|rw[hk2]|rw[hk3])<;>assumption))
                  · clear hK K
                    refine wpAnyH_ready (rs:=[25]) (by kernel_rfl) (by simp) ?_
                    refine AllReadyH.cons rfl (λK hK=>?_) ?_
                    · (refine step_append_sl rfl _ _ 190 rfl _ i0 _ 6 64 underlying190 hi0 hz0 hz1 hz2 rfl (by decide) (.slice qa q.length qcap) _ _ rfl (Sl.mk HR2.out _) ⟨w2.heap.size,0,none⟩ 1 1 [.int .i64 id,.int .i64 lane,.int .i64 0,.int .i64 c.age,.int .i64 s.ids.length,.slice (some ⟨w.heap.size+1,0,none⟩) es.length es.length] rfl rfl (cells_new w2 _ _) (by simp[Value.oneCell']) q1.out q2.out ?_;intro v3 w3 hown3 hg3 hloc3;obtain⟨a3,c3,rfl⟩:=hown3.form;have x13:=World.grownBy.cell hg3 (jcell_after (below_new w2 _) x12) (λe=>qnw e.symm);have x23:=World.grownBy.cell hg3 (jcell_after (below_new w2 _) x22) (λe=>qnw e.symm);have x33:=World.grownBy.cell hg3 (jcell_after (below_new w2 _) x32) (λe=>qnw e.symm);have HX3:Hid (Bx w3 yb 201 (yardCells c xt s.begun s.now (.slice qa q.length qcap) sb s.outs.length ov)):=(HX2.out.mk _).grown hg3 (λe=>qne e.symm);have y13:w3.cell? ⟨yb,1,none⟩=some (.int .i64 c.age):=HX3.out.cell (i:=1) rfl;have y93:w3.cell? ⟨yb,9,none⟩=some (.slice qa q.length qcap):=HX3.out.cell (i:=9) rfl;have y103:w3.cell? ⟨yb,10,none⟩=some (.map (some sb)):=HX3.out.cell (i:=10) rfl;have f93:=HX3.out.fr 9;have HN3:Hid (Sl w3 193 6 (.slice a3 (q.length+1) c3) (q.length+1) (q.flatMap (cP c.age)++[.int .i64 id,.int .i64 lane,.int .i64 0,.int .i64 c.age,.int .i64 s.ids.length,.slice (some ⟨w.heap.size+1,0,none⟩) es.length es.length])):=hown3;have HG3:Hid (w2.grownBy w3 (Value.slice qa q.length qcap).ownBlock):=(World.grownBy_alloc w2 _ _).trans hg3;have HL3:Hid ((Value.slice a3 (q.length+1) c3).ownBlock=(Value.slice qa q.length qcap).ownBlock\/∃g,(Value.slice a3 (q.length+1) c3).ownBlock=some g/\w2.heap.size<=g):=hloc3.imp (λh=>h) (λ⟨g,h,hle⟩=>⟨g,h,Nat.le_trans (by simp) hle⟩);clear hown3 hg3 hloc3)
                      refine hK.out _ _ ?_ (λhHeld=>?_)
                      · (try dsimp only)
                        (first|go_keep|(refine⟨?_,?_,?_,?_,?_⟩<;>(first|rw[hk1]|rw[hk2]|rw[hk3])<;>assumption))
                      · clear hK K
                        refine tk 26 ?_
                        refine tk 27 ?_
                        refine wpAnyH_ready (rs:=[28]) (by kernel_rfl) (by simp) ?_
                        refine AllReadyH.cons rfl (λK hK=>?_) ?_
                        · go_simp
                          refine hK.out _ _ ?_ (λhHeld=>?_)
                          · (try dsimp only)
                            (first|go_keep|(refine⟨?_,?_,?_,?_,?_⟩<;>(first|rw[hk1]|rw[hk2]|rw[hk3])<;>assumption))
                          · clear hK K
                            refine wpAnyH_done (by kernel_rfl) ?_ _
                            go_wp2_with fail
                            go_meet
                            case rel=>
                              have b3:w.grownBy w3 (Value.slice qa q.length qcap).ownBlock:=((grown_any HG0.out _).trans ⟨HB2.out.os,HB2.out.tape,HB2.out.output,HB2.out.size,λk hk _=>HB2.out.block k hk⟩).trans HG3.out
                              have hsz2:w.heap.size+1<=w2.heap.size:=by
                                have:=HB2.out.size
                                rw[<-hs0];exact this
                              have nn:(Value.slice a3 (q.length+1) c3).ownBlock≠some yb:=by
                                rcases HL3.out with e|⟨g,e,hg⟩
                                · rw[e];exact qne
                                · rw[e];intro h;cases h;omega
                              have ee:Sl w3 49 3 (.slice (some ⟨w.heap.size+1,0,none⟩) es.length es.length) es.length (es.flatMap cE):=HS2.out.grown HG3.out λg hg e=>by
                                obtain rfl:w.heap.size+1=g:=by simpa[Value.ownBlock] using hg
                                have:=Sl.lt HY.out.que.row e
                                omega
                              refine⟨⟨w.heap.size+1,.slice a3 (q.length+1) c3,by omega,?_,?_,?_,?_⟩,?_,?_⟩
                              · have:=HX3.out.set 9 (.slice a3 (q.length+1) c3)
                                rwa [set9] at this
                              · exact Sl.put_last (Sl.grown HN3.out (grown_set _ _ _ _) (λg hg e=>nn (by rw[hg];exact e.symm)))
                              · exact ee.grown (grown_set _ _ _ _) (λg hg e=>by
                                  obtain rfl:w.heap.size+1=g:=by simpa[Value.ownBlock] using hg
                                  injection e with e;omega)
                              · exact HL3.out.imp (λh=>h) (λ⟨g,h,hle⟩=>⟨g,h,by omega⟩)
                              · exact(Only.of_grown b3 (S:=λk=>k=yb\/(Value.slice qa q.length qcap).ownBlock=some k) λk h=>.inr h).set (.inl (.inl rfl))
                              · rw[World.cell?_setCell_other _ _ _ _ (by intro e;injection e with e;omega)];exact x33
                        exact AllReadyH.nil
                    exact AllReadyH.nil
                exact AllReadyH.nil
            exact AllReadyH.nil
        exact AllReadyH.nil
    refine AllReadyH.cons rfl (λK hK=>?_) ?_
    · (refine step_len_subm rfl _ rfl sb s.ids rfl (by first|exact hsub0|exact hsub2) ?_)
      refine hK.out _ _ ?_ (λhHeld=>?_)
      · (try dsimp only)
        (first|go_keep|(refine⟨?_,?_,?_,?_,?_⟩<;>(first|rw[hk1]|rw[hk2]|rw[hk3])<;>assumption))
      · clear hK K
        refine wpAnyH_ready (rs:=[4,22]) (by kernel_rfl) (by simp) ?_
        refine AllReadyH.cons rfl (λK hK=>?_) ?_
        · go_simp
          refine hK.out _ _ ?_ (λhHeld=>?_)
          · (try dsimp only)
            (first|go_keep|(refine⟨?_,?_,?_,?_,?_⟩<;>(first|rw[hk1]|rw[hk2]|rw[hk3])<;>assumption))
          · clear hK K
            refine wpAnyH_ready (rs:=[22]) (by kernel_rfl) (by simp) ?_
            refine AllReadyH.cons rfl (λK hK=>?_) ?_
            · go_simp
              go_wp2_with (go_at_call 167;refine hC.mono ?_;rintro e w2 ⟨rfl,hS2,hb2⟩;have x12:=jcell_after hb2 x1;have x22:=jcell_after hb2 x2;have x32:=jcell_after hb2 x3;have y12:=jcell_after hb2 y1;have y92:=jcell_after hb2 y9;have y92o:∀o,(w2.alloc o).cell? ⟨yb,9,none⟩=some (.slice qa q.length qcap):=(λo=>jcell_after (below_new w2 o) y92);have y102:=jcell_after hb2 y10;have f92:w2.frozen? ⟨yb,9,none⟩=false:=frozen_after hb2 (jcell_lt y9) f9;have hsub2:=hsub0.later hb2;have HS2:Hid (Sl w2 49 3 (.slice (some ⟨w.heap.size+1,0,none⟩) es.length es.length) es.length (es.flatMap cE)):=(by rw[<-hs0];exact hS2);have HB2:Hid (Below w0.drew.heap.size w0.drew w2):=hb2;have HR2:Hid (Sl w2 193 6 (.slice qa q.length qcap) q.length (q.flatMap (cP c.age))):=Sl.kept HR0.out (λg hg=>hb2.block g (Sl.lt HR0.out hg));have HX2:Hid (Bx w2 yb 201 (yardCells c xt s.begun s.now (.slice qa q.length qcap) sb s.outs.length ov)):=(hb2.block yb (jcell_lt y9)).trans HB0.out;clear hS2 hb2)
              refine hK.out _ _ ?_ (λhHeld=>?_)
              · (try dsimp only)
                (first|go_keep|(refine⟨?_,?_,?_,?_,?_⟩<;>(first|rw[hk1]|rw[hk2]|rw[hk3])<;>assumption))
              · clear hK K
                refine tk 23 ?_
                refine wpAnyH_ready (rs:=[24]) (by kernel_rfl) (by simp) ?_
                refine AllReadyH.cons rfl (λK hK=>?_) ?_
                · go_simp
                  refine hK.out _ _ ?_ (λhHeld=>?_)
                  · (try dsimp only)
                    (first|go_keep|(refine⟨?_,?_,?_,?_,?_⟩<;>(first|rw[hk1]|rw[hk2]|rw[hk3])<;>assumption))
                  · clear hK K
                    refine wpAnyH_ready (rs:=[25]) (by kernel_rfl) (by simp) ?_
                    refine AllReadyH.cons rfl (λK hK=>?_) ?_
                    · (refine step_append_sl rfl _ _ 190 rfl _ i0 _ 6 64 underlying190 hi0 hz0 hz1 hz2 rfl (by decide) (.slice qa q.length qcap) _ _ rfl (Sl.mk HR2.out _) ⟨w2.heap.size,0,none⟩ 1 1 [.int .i64 id,.int .i64 lane,.int .i64 0,.int .i64 c.age,.int .i64 s.ids.length,.slice (some ⟨w.heap.size+1,0,none⟩) es.length es.length] rfl rfl (cells_new w2 _ _) (by simp[Value.oneCell']) q1.out q2.out ?_;intro v3 w3 hown3 hg3 hloc3;obtain⟨a3,c3,rfl⟩:=hown3.form;have x13:=World.grownBy.cell hg3 (jcell_after (below_new w2 _) x12) (λe=>qnw e.symm);have x23:=World.grownBy.cell hg3 (jcell_after (below_new w2 _) x22) (λe=>qnw e.symm);have x33:=World.grownBy.cell hg3 (jcell_after (below_new w2 _) x32) (λe=>qnw e.symm);have HX3:Hid (Bx w3 yb 201 (yardCells c xt s.begun s.now (.slice qa q.length qcap) sb s.outs.length ov)):=(HX2.out.mk _).grown hg3 (λe=>qne e.symm);have y13:w3.cell? ⟨yb,1,none⟩=some (.int .i64 c.age):=HX3.out.cell (i:=1) rfl;have y93:w3.cell? ⟨yb,9,none⟩=some (.slice qa q.length qcap):=HX3.out.cell (i:=9) rfl;have y103:w3.cell? ⟨yb,10,none⟩=some (.map (some sb)):=HX3.out.cell (i:=10) rfl;have f93:=HX3.out.fr 9;have HN3:Hid (Sl w3 193 6 (.slice a3 (q.length+1) c3) (q.length+1) (q.flatMap (cP c.age)++[.int .i64 id,.int .i64 lane,.int .i64 0,.int .i64 c.age,.int .i64 s.ids.length,.slice (some ⟨w.heap.size+1,0,none⟩) es.length es.length])):=hown3;have HG3:Hid (w2.grownBy w3 (Value.slice qa q.length qcap).ownBlock):=(World.grownBy_alloc w2 _ _).trans hg3;have HL3:Hid ((Value.slice a3 (q.length+1) c3).ownBlock=(Value.slice qa q.length qcap).ownBlock\/∃g,(Value.slice a3 (q.length+1) c3).ownBlock=some g/\w2.heap.size<=g):=hloc3.imp (λh=>h) (λ⟨g,h,hle⟩=>⟨g,h,Nat.le_trans (by simp) hle⟩);clear hown3 hg3 hloc3)
                      refine hK.out _ _ ?_ (λhHeld=>?_)
                      · (try dsimp only)
                        (first|go_keep|(refine⟨?_,?_,?_,?_,?_⟩<;>(first|rw[hk1]|rw[hk2]|rw[hk3])<;>assumption))
                      · clear hK K
                        refine tk 26 ?_
                        refine tk 27 ?_
                        refine wpAnyH_ready (rs:=[28]) (by kernel_rfl) (by simp) ?_
                        refine AllReadyH.cons rfl (λK hK=>?_) ?_
                        · go_simp
                          refine hK.out _ _ ?_ (λhHeld=>?_)
                          · (try dsimp only)
                            (first|go_keep|(refine⟨?_,?_,?_,?_,?_⟩<;>(first|rw[hk1]|rw[hk2]|rw[hk3])<;>assumption))
                          · clear hK K
                            refine wpAnyH_done (by kernel_rfl) ?_ _
                            go_wp2_with fail
                            go_meet
                            case rel=>
                              have b3:w.grownBy w3 (Value.slice qa q.length qcap).ownBlock:=((grown_any HG0.out _).trans ⟨HB2.out.os,HB2.out.tape,HB2.out.output,HB2.out.size,λk hk _=>HB2.out.block k hk⟩).trans HG3.out
                              have hsz2:w.heap.size+1<=w2.heap.size:=by
                                have:=HB2.out.size
                                rw[<-hs0];exact this
                              have nn:(Value.slice a3 (q.length+1) c3).ownBlock≠some yb:=by
                                rcases HL3.out with e|⟨g,e,hg⟩
                                · rw[e];exact qne
                                · rw[e];intro h;cases h;omega
                              have ee:Sl w3 49 3 (.slice (some ⟨w.heap.size+1,0,none⟩) es.length es.length) es.length (es.flatMap cE):=HS2.out.grown HG3.out λg hg e=>by
                                obtain rfl:w.heap.size+1=g:=by simpa[Value.ownBlock] using hg
                                have:=Sl.lt HY.out.que.row e
                                omega
                              refine⟨⟨w.heap.size+1,.slice a3 (q.length+1) c3,by omega,?_,?_,?_,?_⟩,?_,?_⟩
                              · have:=HX3.out.set 9 (.slice a3 (q.length+1) c3)
                                rwa [set9] at this
                              · exact Sl.put_last (Sl.grown HN3.out (grown_set _ _ _ _) (λg hg e=>nn (by rw[hg];exact e.symm)))
                              · exact ee.grown (grown_set _ _ _ _) (λg hg e=>by
                                  obtain rfl:w.heap.size+1=g:=by simpa[Value.ownBlock] using hg
                                  injection e with e;omega)
                              · exact HL3.out.imp (λh=>h) (λ⟨g,h,hle⟩=>⟨g,h,by omega⟩)
                              · exact(Only.of_grown b3 (S:=λk=>k=yb\/(Value.slice qa q.length qcap).ownBlock=some k) λk h=>.inr h).set (.inl (.inl rfl))
                              · rw[World.cell?_setCell_other _ _ _ _ (by intro e;injection e with e;omega)];exact x33
                        exact AllReadyH.nil
                    exact AllReadyH.nil
                exact AllReadyH.nil
            exact AllReadyH.nil
        refine AllReadyH.cons rfl (λK hK=>?_) ?_
        · go_simp
          go_wp2_with (go_at_call 167;refine hC.mono ?_;rintro e w2 ⟨rfl,hS2,hb2⟩;have x12:=jcell_after hb2 x1;have x22:=jcell_after hb2 x2;have x32:=jcell_after hb2 x3;have y12:=jcell_after hb2 y1;have y92:=jcell_after hb2 y9;have y92o:∀o,(w2.alloc o).cell? ⟨yb,9,none⟩=some (.slice qa q.length qcap):=(λo=>jcell_after (below_new w2 o) y92);have y102:=jcell_after hb2 y10;have f92:w2.frozen? ⟨yb,9,none⟩=false:=frozen_after hb2 (jcell_lt y9) f9;have hsub2:=hsub0.later hb2;have HS2:Hid (Sl w2 49 3 (.slice (some ⟨w.heap.size+1,0,none⟩) es.length es.length) es.length (es.flatMap cE)):=(by rw[<-hs0];exact hS2);have HB2:Hid (Below w0.drew.heap.size w0.drew w2):=hb2;have HR2:Hid (Sl w2 193 6 (.slice qa q.length qcap) q.length (q.flatMap (cP c.age))):=Sl.kept HR0.out (λg hg=>hb2.block g (Sl.lt HR0.out hg));have HX2:Hid (Bx w2 yb 201 (yardCells c xt s.begun s.now (.slice qa q.length qcap) sb s.outs.length ov)):=(hb2.block yb (jcell_lt y9)).trans HB0.out;clear hS2 hb2)
          refine hK.out _ _ ?_ (λhHeld=>?_)
          · (try dsimp only)
            (first|go_keep|(refine⟨?_,?_,?_,?_,?_⟩<;>(first|rw[hk1]|rw[hk2]|rw[hk3])<;>assumption))
          · clear hK K
            refine tk 23 ?_
            refine wpAnyH_ready (rs:=[4,24]) (by kernel_rfl) (by simp) ?_
            refine AllReadyH.cons rfl (λK hK=>?_) ?_
            · go_simp
              refine hK.out _ _ ?_ (λhHeld=>?_)
              · (try dsimp only)
                (first|go_keep|(refine⟨?_,?_,?_,?_,?_⟩<;>(first|rw[hk1]|rw[hk2]|rw[hk3])<;>assumption))
              · clear hK K
                refine wpAnyH_ready (rs:=[24]) (by kernel_rfl) (by simp) ?_
                refine AllReadyH.cons rfl (λK hK=>?_) ?_
                · go_simp
                  refine hK.out _ _ ?_ (λhHeld=>?_)
                  · (try dsimp only)
                    (first|go_keep|(refine⟨?_,?_,?_,?_,?_⟩<;>(first|rw[hk1]|rw[hk2]|rw[hk3])<;>assumption))
                  · clear hK K
                    refine wpAnyH_ready (rs:=[25]) (by kernel_rfl) (by simp) ?_
                    refine AllReadyH.cons rfl (λK hK=>?_) ?_
                    · (refine step_append_sl rfl _ _ 190 rfl _ i0 _ 6 64 underlying190 hi0 hz0 hz1 hz2 rfl (by decide) (.slice qa q.length qcap) _ _ rfl (Sl.mk HR2.out _) ⟨w2.heap.size,0,none⟩ 1 1 [.int .i64 id,.int .i64 lane,.int .i64 0,.int .i64 c.age,.int .i64 s.ids.length,.slice (some ⟨w.heap.size+1,0,none⟩) es.length es.length] rfl rfl (cells_new w2 _ _) (by simp[Value.oneCell']) q1.out q2.out ?_;intro v3 w3 hown3 hg3 hloc3;obtain⟨a3,c3,rfl⟩:=hown3.form;have x13:=World.grownBy.cell hg3 (jcell_after (below_new w2 _) x12) (λe=>qnw e.symm);have x23:=World.grownBy.cell hg3 (jcell_after (below_new w2 _) x22) (λe=>qnw e.symm);have x33:=World.grownBy.cell hg3 (jcell_after (below_new w2 _) x32) (λe=>qnw e.symm);have HX3:Hid (Bx w3 yb 201 (yardCells c xt s.begun s.now (.slice qa q.length qcap) sb s.outs.length ov)):=(HX2.out.mk _).grown hg3 (λe=>qne e.symm);have y13:w3.cell? ⟨yb,1,none⟩=some (.int .i64 c.age):=HX3.out.cell (i:=1) rfl;have y93:w3.cell? ⟨yb,9,none⟩=some (.slice qa q.length qcap):=HX3.out.cell (i:=9) rfl;have y103:w3.cell? ⟨yb,10,none⟩=some (.map (some sb)):=HX3.out.cell (i:=10) rfl;have f93:=HX3.out.fr 9;have HN3:Hid (Sl w3 193 6 (.slice a3 (q.length+1) c3) (q.length+1) (q.flatMap (cP c.age)++[.int .i64 id,.int .i64 lane,.int .i64 0,.int .i64 c.age,.int .i64 s.ids.length,.slice (some ⟨w.heap.size+1,0,none⟩) es.length es.length])):=hown3;have HG3:Hid (w2.grownBy w3 (Value.slice qa q.length qcap).ownBlock):=(World.grownBy_alloc w2 _ _).trans hg3;have HL3:Hid ((Value.slice a3 (q.length+1) c3).ownBlock=(Value.slice qa q.length qcap).ownBlock\/∃g,(Value.slice a3 (q.length+1) c3).ownBlock=some g/\w2.heap.size<=g):=hloc3.imp (λh=>h) (λ⟨g,h,hle⟩=>⟨g,h,Nat.le_trans (by simp) hle⟩);clear hown3 hg3 hloc3)
                      refine hK.out _ _ ?_ (λhHeld=>?_)
                      · (try dsimp only)
                        (first|go_keep|(refine⟨?_,?_,?_,?_,?_⟩<;>(first|rw[hk1]|rw[hk2]|rw[hk3])<;>assumption))
                      · clear hK K
                        refine tk 26 ?_
                        refine tk 27 ?_
                        refine wpAnyH_ready (rs:=[28]) (by kernel_rfl) (by simp) ?_
                        refine AllReadyH.cons rfl (λK hK=>?_) ?_
                        · go_simp
                          refine hK.out _ _ ?_ (λhHeld=>?_)
                          · (try dsimp only)
                            (first|go_keep|(refine⟨?_,?_,?_,?_,?_⟩<;>(first|rw[hk1]|rw[hk2]|rw[hk3])<;>assumption))
                          · clear hK K
                            refine wpAnyH_done (by kernel_rfl) ?_ _
                            go_wp2_with fail
                            go_meet
                            case rel=>
                              have b3:w.grownBy w3 (Value.slice qa q.length qcap).ownBlock:=((grown_any HG0.out _).trans ⟨HB2.out.os,HB2.out.tape,HB2.out.output,HB2.out.size,λk hk _=>HB2.out.block k hk⟩).trans HG3.out
                              have hsz2:w.heap.size+1<=w2.heap.size:=by
                                have:=HB2.out.size
                                rw[<-hs0];exact this
                              have nn:(Value.slice a3 (q.length+1) c3).ownBlock≠some yb:=by
                                rcases HL3.out with e|⟨g,e,hg⟩
                                · rw[e];exact qne
                                · rw[e];intro h;cases h;omega
                              have ee:Sl w3 49 3 (.slice (some ⟨w.heap.size+1,0,none⟩) es.length es.length) es.length (es.flatMap cE):=HS2.out.grown HG3.out λg hg e=>by
                                obtain rfl:w.heap.size+1=g:=by simpa[Value.ownBlock] using hg
                                have:=Sl.lt HY.out.que.row e
                                omega
                              refine⟨⟨w.heap.size+1,.slice a3 (q.length+1) c3,by omega,?_,?_,?_,?_⟩,?_,?_⟩
                              · have:=HX3.out.set 9 (.slice a3 (q.length+1) c3)
                                rwa [set9] at this
                              · exact Sl.put_last (Sl.grown HN3.out (grown_set _ _ _ _) (λg hg e=>nn (by rw[hg];exact e.symm)))
                              · exact ee.grown (grown_set _ _ _ _) (λg hg e=>by
                                  obtain rfl:w.heap.size+1=g:=by simpa[Value.ownBlock] using hg
                                  injection e with e;omega)
                              · exact HL3.out.imp (λh=>h) (λ⟨g,h,hle⟩=>⟨g,h,by omega⟩)
                              · exact(Only.of_grown b3 (S:=λk=>k=yb\/(Value.slice qa q.length qcap).ownBlock=some k) λk h=>.inr h).set (.inl (.inl rfl))
                              · rw[World.cell?_setCell_other _ _ _ _ (by intro e;injection e with e;omega)];exact x33
                        exact AllReadyH.nil
                    exact AllReadyH.nil
                exact AllReadyH.nil
            refine AllReadyH.cons rfl (λK hK=>?_) ?_
            · go_simp
              refine hK.out _ _ ?_ (λhHeld=>?_)
              · (try dsimp only)
                (first|go_keep|(refine⟨?_,?_,?_,?_,?_⟩<;>(first|rw[hk1]|rw[hk2]|rw[hk3])<;>assumption))
              · clear hK K
                refine wpAnyH_ready (rs:=[4]) (by kernel_rfl) (by simp) ?_
                refine AllReadyH.cons rfl (λK hK=>?_) ?_
                · go_simp
                  refine hK.out _ _ ?_ (λhHeld=>?_)
                  · (try dsimp only)
                    (first|go_keep|(refine⟨?_,?_,?_,?_,?_⟩<;>(first|rw[hk1]|rw[hk2]|rw[hk3])<;>assumption))
                  · clear hK K
                    refine wpAnyH_ready (rs:=[25]) (by kernel_rfl) (by simp) ?_
                    refine AllReadyH.cons rfl (λK hK=>?_) ?_
                    · (refine step_append_sl rfl _ _ 190 rfl _ i0 _ 6 64 underlying190 hi0 hz0 hz1 hz2 rfl (by decide) (.slice qa q.length qcap) _ _ rfl (Sl.mk HR2.out _) ⟨w2.heap.size,0,none⟩ 1 1 [.int .i64 id,.int .i64 lane,.int .i64 0,.int .i64 c.age,.int .i64 s.ids.length,.slice (some ⟨w.heap.size+1,0,none⟩) es.length es.length] rfl rfl (cells_new w2 _ _) (by simp[Value.oneCell']) q1.out q2.out ?_;intro v3 w3 hown3 hg3 hloc3;obtain⟨a3,c3,rfl⟩:=hown3.form;have x13:=World.grownBy.cell hg3 (jcell_after (below_new w2 _) x12) (λe=>qnw e.symm);have x23:=World.grownBy.cell hg3 (jcell_after (below_new w2 _) x22) (λe=>qnw e.symm);have x33:=World.grownBy.cell hg3 (jcell_after (below_new w2 _) x32) (λe=>qnw e.symm);have HX3:Hid (Bx w3 yb 201 (yardCells c xt s.begun s.now (.slice qa q.length qcap) sb s.outs.length ov)):=(HX2.out.mk _).grown hg3 (λe=>qne e.symm);have y13:w3.cell? ⟨yb,1,none⟩=some (.int .i64 c.age):=HX3.out.cell (i:=1) rfl;have y93:w3.cell? ⟨yb,9,none⟩=some (.slice qa q.length qcap):=HX3.out.cell (i:=9) rfl;have y103:w3.cell? ⟨yb,10,none⟩=some (.map (some sb)):=HX3.out.cell (i:=10) rfl;have f93:=HX3.out.fr 9;have HN3:Hid (Sl w3 193 6 (.slice a3 (q.length+1) c3) (q.length+1) (q.flatMap (cP c.age)++[.int .i64 id,.int .i64 lane,.int .i64 0,.int .i64 c.age,.int .i64 s.ids.length,.slice (some ⟨w.heap.size+1,0,none⟩) es.length es.length])):=hown3;have HG3:Hid (w2.grownBy w3 (Value.slice qa q.length qcap).ownBlock):=(World.grownBy_alloc w2 _ _).trans hg3;have HL3:Hid ((Value.slice a3 (q.length+1) c3).ownBlock=(Value.slice qa q.length qcap).ownBlock\/∃g,(Value.slice a3 (q.length+1) c3).ownBlock=some g/\w2.heap.size<=g):=hloc3.imp (λh=>h) (λ⟨g,h,hle⟩=>⟨g,h,Nat.le_trans (by simp) hle⟩);clear hown3 hg3 hloc3)
                      refine hK.out _ _ ?_ (λhHeld=>?_)
                      · (try dsimp only)
                        (first|go_keep|(refine⟨?_,?_,?_,?_,?_⟩<;>(first|rw[hk1]|rw[hk2]|rw[hk3])<;>assumption))
                      · clear hK K
                        refine tk 26 ?_
                        refine tk 27 ?_
                        refine wpAnyH_ready (rs:=[28]) (by kernel_rfl) (by simp) ?_
                        refine AllReadyH.cons rfl (λK hK=>?_) ?_
                        · go_simp
                          refine hK.out _ _ ?_ (λhHeld=>?_)
                          · (try dsimp only)
                            (first|go_keep|(refine⟨?_,?_,?_,?_,?_⟩<;>(first|rw[hk1]|rw[hk2]|rw[hk3])<;>assumption))
                          · clear hK K
                            refine wpAnyH_done (by kernel_rfl) ?_ _
                            go_wp2_with fail
                            go_meet
                            case rel=>
                              have b3:w.grownBy w3 (Value.slice qa q.length qcap).ownBlock:=((grown_any HG0.out _).trans ⟨HB2.out.os,HB2.out.tape,HB2.out.output,HB2.out.size,λk hk _=>HB2.out.block k hk⟩).trans HG3.out
                              have hsz2:w.heap.size+1<=w2.heap.size:=by
                                have:=HB2.out.size
                                rw[<-hs0];exact this
                              have nn:(Value.slice a3 (q.length+1) c3).ownBlock≠some yb:=by
                                rcases HL3.out with e|⟨g,e,hg⟩
                                · rw[e];exact qne
                                · rw[e];intro h;cases h;omega
                              have ee:Sl w3 49 3 (.slice (some ⟨w.heap.size+1,0,none⟩) es.length es.length) es.length (es.flatMap cE):=HS2.out.grown HG3.out λg hg e=>by
                                obtain rfl:w.heap.size+1=g:=by simpa[Value.ownBlock] using hg
                                have:=Sl.lt HY.out.que.row e
                                omega
                              refine⟨⟨w.heap.size+1,.slice a3 (q.length+1) c3,by omega,?_,?_,?_,?_⟩,?_,?_⟩
                              · have:=HX3.out.set 9 (.slice a3 (q.length+1) c3)
                                rwa [set9] at this
                              · exact Sl.put_last (Sl.grown HN3.out (grown_set _ _ _ _) (λg hg e=>nn (by rw[hg];exact e.symm)))
                              · exact ee.grown (grown_set _ _ _ _) (λg hg e=>by
                                  obtain rfl:w.heap.size+1=g:=by simpa[Value.ownBlock] using hg
                                  injection e with e;omega)
                              · exact HL3.out.imp (λh=>h) (λ⟨g,h,hle⟩=>⟨g,h,by omega⟩)
                              · exact(Only.of_grown b3 (S:=λk=>k=yb\/(Value.slice qa q.length qcap).ownBlock=some k) λk h=>.inr h).set (.inl (.inl rfl))
                              · rw[World.cell?_setCell_other _ _ _ _ (by intro e;injection e with e;omega)];exact x33
                        exact AllReadyH.nil
                    exact AllReadyH.nil
                exact AllReadyH.nil
            exact AllReadyH.nil
        exact AllReadyH.nil
    exact AllReadyH.nil
  case rest=>
    obtain⟨⟨ge,qv',hge,hB,hR,hE,hL⟩,hO,hX⟩:=hcut
    rename World=>wz
    have h:=HY.out
    have hsby:sb≠yb:=h.sub.ne_box h.box
    have hOT:OnlyT w wz S [201,193]:=OnlyT.mk hO λk hk e=>by
      rcases e with rfl|e
      · exact⟨h.fy,_,by simp,h.box.ty⟩
      · exact⟨h.que.fq k e,_,by simp,h.que.row.ty e⟩
    have hsz:Subm wz sb s.ids:=hOT.sub h.sub (by decide)
    obtain⟨D,hm1,hm2,hm3⟩:=hsz
    obtain⟨w4,hrun,ho4,hg4⟩:=World.ownsMap.update (w:=wz.drew) hm1 lawI underS (by unfold maxLen;omega) (keyI (n:=id) (by omega)) (val:=.agg #[]) unitElem_mk
    have HU:Hid (Subm w4 sb (s.ids++[id])):=Subm.put hm1.isMap (hm1.tidy lawI) hm2 hm3 hnew ho4
    have z10:wz.cell? ⟨yb,10,none⟩=some (.map (some sb)):=hB.cell (i:=10) rfl
    have HM:Hid (Subm wz sb s.ids):=⟨D,hm1,hm2,hm3⟩
    have HG4:Hid (OnlyT wz w4 S [tMap]):=OnlyT.mk (Only.of_grown (⟨hg4.os,hg4.tape,hg4.output,hg4.size,hg4.block⟩:wz.grownBy w4 (some sb)) (S:=λk=>k=sb) λk hk=>by cases hk;rfl) λk hk e=>by
      subst e
      exact⟨h.fs,_,by simp,HM.out.ty⟩
    have HN4:Hid (∀k,k<wz.heap.size->k≠sb->w4.heap[k]? =wz.heap[k]?):=λk hk hne=>hg4.block k hk (by simpa using hne)
    have HB:Hid (Bx wz yb 201 (yardCells c xt s.begun s.now qv' sb s.outs.length ov)):=hB
    have HR:Hid (Sl wz 193 6 qv' (q.length+1) ((q++[((⟨id,lane,0,s.ids.length,es⟩:Ch),(.slice (some ⟨ge,0,none⟩) es.length es.length:Value))]).flatMap (cP c.age))):=hR
    have HE:Hid (Sl wz 49 3 (.slice (some ⟨ge,0,none⟩) es.length es.length) es.length (es.flatMap cE)):=hE
    have HL:Hid (qv'.ownBlock=(Value.slice qa q.length qcap).ownBlock\/∃g,qv'.ownBlock=some g/\w.heap.size<=g):=hL
    have HO:Hid (OnlyT w wz S [201,193]):=hOT
    clear hB hR hE hL hO hOT hm1 hm2 hm3 ho4 hg4 HB0 HR0 HG0 hC hsub0 h x1 x2 x3 y1 y9 y10 f9 hk1 hk2 hk3
    go_wp2_with fail
    go_region_law (fail)
    all_goals
      have h:=HY.out
      obtain⟨tl,zs,hr⟩:=h.rest
      have O4:OnlyT w w4 S [201,193,tMap]:=HO.out.trans HG4.out (Plus.old w)
      have hM:FilesMap w4 xt.tip xt.n s.tip:=(HO.out.map hr.map (by decide)).same (HN4.out _ (HO.out.map hr.map (by decide)).lt h.nt.symm)
      refine bodyPost_end (v:=.tuple #[]) (results_none (by kernel_rfl) _ _ _) rfl ⟨rfl,⟨q++[((⟨id,lane,0,s.ids.length,es⟩:Ch),(.slice (some ⟨ge,0,none⟩) es.length es.length:Value))],sb,qv',ov,xt,?_,HX.out⟩,O4.only⟩
      refine⟨by rw[List.map_append];exact h.qs.append_right _,HG4.out.bx HB.out (by decide),⟨?_,λy hy=>?_,λg hg=>?_,λy hy g hg=>?_⟩,HU.out,h.outs.keptT O4.k (Plus.old w) (by decide),.inl h.fy,.inl h.fs,⟨tl,zs,hr.keptT O4.k (Plus.old w) h.np rfl rfl rfl (by simp) (by unfold NoRest NoSeg;decide) hM⟩,h.nt⟩
      · rw[List.length_append]
        exact HG4.out.sl HR.out (by decide)
      · rcases List.mem_append.1 hy with hy|hy
        · exact O4.sl (h.que.eds y hy) (by decide)
        · obtain rfl:=List.mem_singleton.1 hy
          exact HG4.out.sl HE.out (by decide)
      · rcases HL.out with e|⟨g',e,hg'⟩
        · rw[e] at hg;exact .inl (h.que.fq g hg)
        · rw[e] at hg;cases hg;exact .inr hg'
      · rcases List.mem_append.1 hy with hy|hy
        · exact .inl (h.que.fe y hy g hg)
        · obtain rfl:=List.mem_singleton.1 hy
          cases hg;exact .inr hge
end
section
open Go.Maps Go.Sort
theorem below_drewd {n:Nat}{w w':World}(h:Below n w w'):Below n w w'.drew:=⟨h.os,h.tape,h.output,h.size,h.block⟩
def SubErr (c:Cfg)(s:Ts)(id lane:Int)(es:List Ed)(k:Int):Prop:=
  (¬ChOK c id lane es/\k=2)\/(ChOK c id lane es/\id.toNat∈s.ids/\k=3)\/(ChOK c id lane es/\id.toNat∉s.ids/\c.queue<=s.queue.length/\k=4)\/(ChOK c id lane es/\id.toNat∉s.ids/\s.queue.length<c.queue/\k=0)
theorem Subm.look {w:World}{sb:Nat}{ids:List Nat}(h:Subm w sb ids){n:Nat}(hn:n<9223372036854775808):
    (Instr.lookup 194 (.map (some sb)) (.int .i64 n) true).run prog w=.ok (.tuple #[.agg #[],.bool (ids.contains n)]) w:=by
  obtain⟨D,h1,h2,h3⟩:=h
  obtain⟨v,ps,hrun,hv⟩:=h1.look_ok lawI underS (zeroU w) (zd:=.agg []) (zp:=[]) unitElem_mk (keyI hn)
  obtain⟨rfl,_⟩:=unitElem_inv hv
  rw[<-h3 n]
  exact hrun
theorem yCheckSubmit (S:Nat->Prop)(yb mb n0:Nat)(c:Cfg)(s:Ts)(kind id lane num:Int)(pass:Bool)(es:List Ed)(ea:Option Addr)(en ec:Nat)(w:World)(hY:YardAt w S yb mb n0 c s)(hE:EditsAt w (.slice ea en ec) es)(hc:CapOK (.slice ea en ec))(hn:es.length<8796093022208)(hq:s.queue.length<=16):
    Calls prog 157 #[.pointer (some ⟨yb,0,none⟩),.agg #[.int .i64 kind,.int .i64 lane,.slice ea en ec,.int .i64 id,.bool pass,.int .i64 num]] w λe w'=>(∃k:Int,e=.returned (.int .i64 k)/\SubErr c s id lane es k)/\Below w.heap.size w w':=by
  obtain⟨q,sb,qv,ov,xt,h,hx⟩:=hY
  have hC:=yChange yb c _ kind id lane num pass es ea en ec (w.alloc (.cells #[.int .i64 kind,.int .i64 lane,.slice ea en ec,.int .i64 id,.bool pass,.int .i64 num] 140)) (h.box.mk _) rfl (hE.later (below_new _ _)) hc hn
  have hql:=h.qlen
  obtain⟨qa,qcap,rfl⟩:=h.que.row.form
  have y6:=h.box.c 6 (.int .i64 c.queue)
  have y9:=h.box.c 9 (.slice qa q.length qcap)
  have y10:=h.box.c 10 (.map (some sb))
  have hU:=h.sub
  have HP:Hid (∀k,SubErr c s id lane es k↔((¬ChOK c id lane es/\k=2)\/(ChOK c id lane es/\id.toNat∈s.ids/\k=3)\/(ChOK c id lane es/\id.toNat∉s.ids/\c.queue<=s.queue.length/\k=4)\/(ChOK c id lane es/\id.toNat∉s.ids/\s.queue.length<c.queue/\k=0))):=λk=>Iff.rfl
  have Hid1:Hid (ChOK c id lane es->1<=id/\id<=1000000):=λh=>⟨h.1,h.2.1⟩
  generalize SubErr c s id lane es=P at HP ⊢
  generalize ChOK c id lane es=r at HP hC Hid1
  have HQL:Hid (q.length=s.queue.length):=hql
  have hq16:q.length<=16:=by omega
  clear h hx hE hql
  go_enter func157,ntmps157
  go_wp2_with fail
  go_fit hC
  rintro e w1 ⟨⟨t,rfl,ht⟩,hb1⟩
  have x3:w1.cell? ⟨w.heap.size,3,none⟩=some (.int .i64 id):=jcell_after hb1 (by simp)
  have hb:Below w.heap.size w w1:=(below_new _ _).trans (hb1.mono (by simp))
  have HB:Hid (Below w.heap.size w w1):=hb
  have z6:=jcell_after hb y6
  have z9:=jcell_after hb y9
  have z10:=jcell_after hb y10
  have hU1:=hU.later hb
  have Ht:Hid (t=true↔r):=ht
  clear y6 y9 y10 hU ht hb hb1 hC
  cases t
  · have F:Hid (P 2):=(HP.out 2).2 (.inl ⟨λx=>Bool.noConfusion (Ht.out.2 x),rfl⟩)
    go_wp2_with fail
    go_ret
    exact⟨⟨2,rfl,F.out⟩,HB.out⟩
  · have hr:r:=Ht.out.1 rfl
    obtain⟨i1,i2⟩:=Hid1.out hr
    obtain⟨n,rfl⟩:∃n:Nat,id=n:=⟨id.toNat,by omega⟩
    have L1:=(show Subm w1.drew sb s.ids from hU1).look (n:=n) (by omega)
    have L2:=λo=>(show Subm (w1.alloc o).drew sb s.ids from hU1.later (below_new_drew _ _)).look (n:=n) (by omega)
    have HR:Hid r:=hr
    have F3:Hid (n∈s.ids->P 3):=λh=>(HP.out 3).2 (.inr (.inl ⟨HR.out,by simpa using h,rfl⟩))
    have F4:Hid (n∉s.ids->c.queue<=q.length->P 4):=λh h'=>(HP.out 4).2 (.inr (.inr (.inl ⟨HR.out,by simpa using h,by rw[<-HQL.out];exact h',rfl⟩)))
    have F0:Hid (n∉s.ids->q.length<c.queue->P 0):=λh h'=>(HP.out 0).2 (.inr (.inr (.inr ⟨HR.out,by simpa using h,by rw[<-HQL.out];exact h',rfl⟩)))
    clear HP hr hU1 Hid1 Ht
    by_cases hm:n∈s.ids
    · have hcn:s.ids.contains n=true:=by simpa using hm
      simp only[hcn] at L1 L2
      have G3:Hid (P 3):=F3.out hm
      clear F3 F4 F0 hm hcn
      go_wp2_with fail
      go_region_held_law (λw'=>w'.cell? ⟨w.heap.size,3,none⟩=some (.int .i64 n)/\w'.cell? ⟨yb,10,none⟩=some (.map (some sb))) (go_keep) (fail)
      all_goals
        go_wp2_with fail
        go_ret
        exact⟨⟨3,rfl,G3.out⟩,HB.out.trans ((below_new_drew _ _).mono HB.out.size)⟩
    · have hcn:s.ids.contains n=false:=by simpa using hm
      simp only[hcn] at L1 L2
      have G4:Hid (c.queue<=q.length->P 4):=F4.out hm
      have G0:Hid (q.length<c.queue->P 0):=F0.out hm
      clear F3 F4 F0 hm hcn
      go_wp2_with fail
      go_cut [5,6] from 7 (λ_ t wz=>t=.bool false/\∃o,wz=(w1.alloc o).drew)
      case first=>
        go_region_held_law (λw'=>w'.cell? ⟨w.heap.size,3,none⟩=some (.int .i64 n)/\w'.cell? ⟨yb,10,none⟩=some (.map (some sb))) (go_keep) (fail)
        all_goals
          go_wp2_with fail
          go_meet
          case rel=>exact⟨rfl,_,rfl⟩
      case rest=>
        obtain⟨rfl,o,rfl⟩:=hcut
        have v6:=jcell_after (below_new_drew w1 o) z6
        have v9:=jcell_after (below_new_drew w1 o) z9
        have HB2:Hid (Below w.heap.size w (w1.alloc o).drew):=HB.out.trans ((below_new_drew _ _).mono HB.out.size)
        clear z6 z9 z10 L1 L2
        generalize (w1.alloc o).drew=w2 at *
        by_cases hlt:q.length<c.queue
        · have K:Hid (P 0):=G0.out hlt
          have hge:¬((c.queue:Int)<=(q.length:Int)):=by omega
          clear G4 G0
          go_wp2_with fail
          go_region_held_law (λw'=>w'.cell? ⟨yb,6,none⟩=some (.int .i64 c.queue)/\w'.cell? ⟨yb,9,none⟩=some (.slice qa q.length qcap)) (go_keep) (fail)
          all_goals
            go_wp2_with fail
            go_ret
            exact⟨⟨0,rfl,K.out⟩,below_drewd HB2.out⟩
        · have K:Hid (P 4):=G4.out (by omega)
          have hge:((c.queue:Int)<=(q.length:Int)):=by omega
          clear G4 G0
          go_wp2_with fail
          go_region_held_law (λw'=>w'.cell? ⟨yb,6,none⟩=some (.int .i64 c.queue)/\w'.cell? ⟨yb,9,none⟩=some (.slice qa q.length qcap)) (go_keep) (fail)
          all_goals
            go_wp2_with fail
            go_ret
            exact⟨⟨4,rfl,K.out⟩,below_drewd HB2.out⟩
end
theorem Only.from_new {w w':World}{o:Obj}{S:Nat->Prop}(h:Only (w.alloc o) w' S):Only w w' S:=(Only.of_below (S:=S) (below_new w o)).trans h λ_ hk=>.inl hk
theorem Plus.from_new {S:Nat->Prop}{w:World}{o:Obj}:∀k,Plus S (w.alloc o) k->Plus S w k:=λk h=>by
  rcases h with h|h
  · exact .inl h
  · exact .inr (by have:(w.alloc o).heap.size=w.heap.size+1:=by simp
                   omega)
theorem yDo1 (S:Nat->Prop)(yb mb n0 id lane num:Nat)(pass:Bool)(b eo ec:Nat)(es:List Ed)(c:Cfg)(s:Ts)(w:World)(hY:YardAt w S yb mb n0 c s)(hn:s.queue.length<=16)(hsm:Small es)(hid:id<=1000000)(hnew:id∉s.ids)(hi:s.ids.length<1048576000)(hlt:b<w.heap.size)(h0:∀i (h:i<es.length),w.cell? ⟨b,eo+i*3,none⟩=some (.string es[i].1))(h1:∀i (h:i<es.length),w.cell? ⟨b,eo+i*3+1,none⟩=some (.string es[i].2.1))(h2:∀i (h:i<es.length),w.cell? ⟨b,eo+i*3+2,none⟩=some (.string es[i].2.2)):
    Calls prog 76 #[.pointer (some ⟨yb,0,none⟩),.agg (recC 1 lane (some ⟨b,eo,none⟩) es.length ec id pass num)] w λe w'=>e=.returned (.tuple #[])/\YardAt w' (Plus S w) yb mb n0 c {s with ids:=s.ids++[id],queue:=s.queue++[⟨id,lane,0,s.ids.length,es⟩]}/\Only w w' S:=by
  have hS:=ySubmit S yb mb n0 1 id lane num pass b eo ec es c s (w.alloc (.cells (recC 1 lane (some ⟨b,eo,none⟩) es.length ec id pass num) 140)) (hY.later (below_new _ _)) hn hsm hid hnew hi (by simp;omega) (λi h=>jcell_after (below_new _ _) (h0 i h)) (λi h=>jcell_after (below_new _ _) (h1 i h)) (λi h=>jcell_after (below_new _ _) (h2 i h))
  have hnm:¬Plus S w mb:=Plus.not hY.nm.1 hY.nm.2
  clear hY h0 h1 h2
  unfold recC at hS ⊢
  go_enter func76,ntmps76
  go_wp2_with fail
  go_fit hS
  rintro e w1 ⟨rfl,hY1,hO1⟩
  have HY:Hid _:=hY1
  have HO:Hid _:=hO1
  clear hY1 hO1 hS
  go_wp2_with fail
  exact bodyPost_end (v:=.tuple #[]) (results_none (by kernel_rfl) _ _ _) rfl ⟨rfl,YardAt.mono HY.out Plus.from_new hnm,Only.from_new HO.out⟩
theorem yDo6 (S:Nat->Prop)(yb mb n0:Nat)(n:Int)(c:Cfg)(s:Ts)(w:World)(hY:YardAt w S yb mb n0 c s)(ha:s.acked<s.outs.length):
    Calls prog 76 #[.pointer (some ⟨yb,0,none⟩),.agg #[.int .i64 6,.int .i64 0,.slice none 0 0,.int .i64 0,.bool false,.int .i64 n]] w λe w'=>e=.returned (.tuple #[])/\YardAt w' (Plus S w) yb mb n0 c {s with acked:=s.acked+1}/\Only w w' S:=by
  obtain⟨q,sb,qv,ov,xt,h,hx⟩:=hY
  have HX:Hid (xt.n<=n0+4*s.outs.length):=hx
  have HY:Hid (YardIs w S yb mb n0 c s q sb qv ov xt):=h
  have hd:s.outs.drop s.acked=s.outs[s.acked]::s.outs.drop (s.acked+1):=List.drop_eq_getElem_cons ha
  have hS:=h.outs.row
  rw[hd,oc] at hS
  obtain⟨m,hm⟩:∃m,s.outs.length-s.acked=m+1:=⟨s.outs.length-s.acked-1,by omega⟩
  rw[hm] at hS
  have hne:=h.outs.row.ne h.box (by decide)
  have hD:=outDrop yb 15 m 201 ov _ _ _ _ _ (w.alloc (.cells #[.int .i64 6,.int .i64 0,.slice none 0 0,.int .i64 0,.bool false,.int .i64 n] 140)) (h.box.mk _) rfl (hS.mk _) hne
  have Hm:Hid (s.outs.length-(s.acked+1)=m):=by show _=_;omega
  have hyl:=h.box.lt
  clear h hx hS hd hm
  go_enter func76,ntmps76
  go_wp2_with fail
  go_fit hD
  rintro e w1 ⟨rfl,v',hB1,hS1,hv1,hO1⟩
  have HB:Hid _:=hB1
  have HS:Hid _:=hS1
  have HV:Hid _:=hv1
  have HO:Hid _:=hO1
  clear hB1 hS1 hv1 hO1 hD
  go_wp2_with fail
  have h:=HY.out
  have O:OnlyT w w1 S [201,99]:=OnlyT.mk (Only.from_new HO.out) λk hk e=>by
    rcases e with rfl|e
    · exact⟨h.fy,_,by simp,h.box.ty⟩
    · exact⟨h.outs.own k e,_,by simp,h.outs.row.ty e⟩
  obtain⟨tl,zs,hr⟩:=h.rest
  refine bodyPost_end (v:=.tuple #[]) (results_none (by kernel_rfl) _ _ _) rfl ⟨rfl,⟨q,sb,qv,v',xt,⟨h.qs,?_,h.que.keptT O.k (Plus.old w) (by decide) (by decide),O.sub h.sub (by decide),⟨?_,λg hg=>?_⟩,.inl h.fy,.inl h.fs,⟨tl,zs,hr.keptT O.k (Plus.old w) h.np rfl rfl rfl (Nat.le_refl _) (by unfold NoRest NoSeg;decide) (O.map hr.map (by decide))⟩,h.nt⟩,HX.out⟩,O.only⟩
  · have:=HB.out
    rwa [set15] at this
  · show Sl w1 _ 3 v' (s.outs.length-(s.acked+1)) (oc (s.acked+1) (s.outs.drop (s.acked+1)))
    rw[Hm.out];exact HS.out
  · rw[HV.out] at hg;exact .inl (h.outs.own g hg)
theorem yCheck1 (S:Nat->Prop)(yb mb n0:Nat)(c:Cfg)(s:Ts)(id lane:Int)(es:List Ed)(ea:Option Addr)(en ec:Nat)(w:World)(hY:YardAt w S yb mb n0 c s)(hE:EditsAt w (.slice ea en ec) es)(hc:CapOK (.slice ea en ec))(hn:es.length<8796093022208)(hq:s.queue.length<=16):
    Calls prog 110 #[.pointer (some ⟨yb,0,none⟩),.agg #[.int .i64 1,.int .i64 lane,.slice ea en ec,.int .i64 id,.bool false,.int .i64 0]] w λe w'=>(∃k:Int,e=.returned (.int .i64 k)/\SubErr c s id lane es k)/\Below w.heap.size w w':=by
  have hC:=yCheckSubmit S yb mb n0 c s 1 id lane 0 false es ea en ec (w.alloc (.cells #[.int .i64 1,.int .i64 lane,.slice ea en ec,.int .i64 id,.bool false,.int .i64 0] 140)) (hY.later (below_new _ _)) (hE.later (below_new _ _)) hc hn hq
  generalize SubErr c s id lane es=P at hC ⊢
  clear hY hE
  go_enter func110,ntmps110
  go_wp2_with fail
  go_fit hC
  rintro e w1 ⟨⟨k,rfl,hk⟩,hb1⟩
  have HK:Hid (P k):=hk
  have HB:Hid (Below w.heap.size w w1):=(below_new _ _).trans (hb1.mono (by simp))
  clear hk hb1 hC
  go_wp2_with fail
  go_ret
  exact⟨⟨k,rfl,HK.out⟩,HB.out⟩
theorem wpList_append_bytes {P:Program}(w:World){ops:Array Oper}{rest:List Oper}{o:Oper}{a:Act}{Q:Exit->Act->World->Prop}(hgd:o.guard=none)(s x:Operand)(t:TypeId)(ho:o.op=.call {callee:=.builtin .append,args:=#[s,x],argTypes:=#[t,t]})(e:TypeId)(i:TypeInfo)(z:Value)(ht:P.underlying t=some (.slice e))(hi:P.info? e=some i)(hz:i.zero=some z)(hsize:i.size=1)(hby:i.bytes=1)(hzs:z.cells.size=1)(v:Value)(n:Nat)(xs:List Value)(hs:a.eval s=v)(hown:Sl w e 1 v n xs)(u:Value)(m:Nat)(news:List Value)(hx:a.eval x=u)(hsrc:Sl w e 1 u m news)(h1:∀y∈news,y.oneCell'=true)(h63:n+m<=maxLen)(hbytes:(n+m)*1<=140737488355328)(h:∀v' w',Sl w' e 1 v' (n+m) (xs++news)->w.grownBy w' v.ownBlock->(v'.ownBlock=v.ownBlock\/∃g,v'.ownBlock=some g/\w.heap.size<=g)->wpList P ops Q rest (a.put o.dst v') w'):wpList P ops Q (o::rest) a w:=by
  rcases Nat.eq_zero_or_pos m with rfl|hm
  · obtain rfl:news=[]:=List.eq_nil_of_length_eq_zero (by simpa using hsrc.1)
    obtain⟨ua,uc,rfl⟩:=hsrc.form
    obtain⟨va,vc,rfl⟩:=hown.form
    refine wpList_plain hgd λK hK=>?_
    have hl:∀a,Sem.run P (loadCells a 0) w=.ok #[] w:=λa=>run_loadCells_list (P:=P) w a [] (by simp)
    have hr:(Builtin.append_ #[t,t] o.type #[.slice va n vc,.slice ua 0 uc]).run P w=.ok (.slice va n vc) w:=by
      rcases hown.2 with ⟨e1,e2⟩|⟨g,off,cap,cur,e1,hh,hnc,_⟩
      · cases e1
        cases ua<;>simp[Builtin.append_,run_underlying ht,sizeOf,typeInfo,hi,Builtin.lenOf,Builtin.firstCells,hl]
      · cases e1
        cases ua<;>simp[Builtin.append_,run_underlying ht,sizeOf,typeInfo,hi,Builtin.lenOf,Builtin.firstCells,hnc,storeCells,hl]
    unfold Oper.wp execOp
    simp only[ho,resolve,invoke,builtin,Sem.run_bind,Sem.run_pure,Result.andThen_ok,List.map_toArray,List.map_cons,List.map_nil,hs,hx,hr]
    exact hK _ _ (h _ w (by simpa using hown) (World.grownBy.refl _ _) (.inl rfl))
  · obtain⟨g,off,cap,rfl,_⟩:=hsrc.addr hm
    refine wpList_append_sl w hgd s x t ho e i z 1 1 ht hi hz hsize hby hzs (by decide) v n xs hs hown ⟨g,off,none⟩ m cap news hx (by simpa using hsrc.1) (λj y hy=>?_) h1 h63 hbytes h
    have:(⟨g,off,none⟩:Addr).add j=⟨g,off+j,none⟩:=by
      unfold Addr.add
      by_cases h:j=0
      · subst h;simp
      · simp[h]
    rw[this]
    exact hsrc.cell hy
def machCells (c:Cfg)(mb:Nat)(lv up:Value):Array Value:=
  #[.int .i64 c.lanes,.int .i64 c.age,.int .i64 c.batch,.int .i64 c.window,.int .i64 c.retries,.int .i64 c.deadline,.int .i64 c.queue,.map (some mb),lv,up]
def runCells (yb:Nat)(br:Bool)(keep:Int):Array Value:=#[.pointer (some ⟨yb,0,none⟩),.bool br,.int .i64 keep]
structure Wrote (w w':World)(xb mb:Nat)(c:Cfg)(lv up:Value)(L:List UInt8)(lv':Value):Prop where
  box:Bx w' xb 135 (machCells c mb lv' up)
  log:Sl w' 5 1 lv' L.length (bc L)
  blk:lv'.ownBlock=lv.ownBlock\/∃g,lv'.ownBlock=some g/\w.heap.size<=g
  only:Only w w' (λk=>k=xb\/lv.ownBlock=some k)
theorem mWrite (xb mb rb yb:Nat)(c:Cfg)(keep:Int)(lv v:Value)(L l:List UInt8)(w:World)(hB:Bx w xb 135 (machCells c mb lv (.pointer (some ⟨rb,0,none⟩))))(hR:Bx w rb 137 (runCells yb false keep))(hL:Sl w 5 1 lv L.length (bc L))(hl:Sl w 5 1 v l.length (bc l))(hn:L.length<1099511627776)(hm:l.length<1099511627776):
    Calls prog 111 #[.pointer (some ⟨xb,0,none⟩),v] w λe w'=>e=.returned (.tuple #[])/\∃lv',Wrote w w' xb mb c lv (.pointer (some ⟨rb,0,none⟩)) (L++l) lv':=by
  obtain⟨i0,hi,hz0,hz1,hz2⟩:=info_parts info_u8
  obtain⟨la,lc,rfl⟩:=hL.form
  obtain⟨va,vc,rfl⟩:=hl.form
  have c8:w.cell? ⟨xb,8,none⟩=some (.slice la L.length lc):=hB.cell (i:=8) rfl
  have c9:w.cell? ⟨xb,9,none⟩=some (.pointer (some ⟨rb,0,none⟩)):=hB.cell (i:=9) rfl
  have r1:w.cell? ⟨rb,1,none⟩=some (.bool false):=hR.cell (i:=1) rfl
  have hne:=hL.ne hB (by decide)
  have HB:Hid (Bx w xb 135 (machCells c mb (.slice la L.length lc) (.pointer (some ⟨rb,0,none⟩)))):=hB
  have HL:Hid (Sl w 5 1 (.slice la L.length lc) L.length (bc L)):=hL
  have Hl:Hid (Sl w 5 1 (.slice va l.length vc) l.length (bc l)):=hl
  have q1:Hid (L.length+l.length<=maxLen):=by show _<=_;unfold maxLen;omega
  have q2:Hid ((L.length+l.length)*1<=140737488355328):=by show _<=_;omega
  clear hB hR hL hl
  go_enter func111,ntmps111
  go_wp2_with (at_builtin;refine wpList_append_bytes _ rfl _ _ 114 rfl _ i0 _ underlying114 hi hz0 hz1 hz2 rfl (.slice la L.length lc) _ _ rfl HL.out (.slice va l.length vc) _ _ rfl Hl.out (bc_one l) q1.out q2.out ?_;intro v3 w3 hown3 hg3 hloc3;obtain⟨a3,c3,rfl⟩:=hown3.form;have HB3:Hid (Bx w3 xb 135 (machCells c mb (.slice la L.length lc) (.pointer (some ⟨rb,0,none⟩)))):=HB.out.grown hg3 (λe=>hne e.symm);have d8:w3.cell? ⟨xb,8,none⟩=some (.slice la L.length lc):=HB3.out.cell (i:=8) rfl;have f8:=HB3.out.fr 8;have HO3:Hid (Sl w3 5 1 (.slice a3 (L.length+l.length) c3) (L.length+l.length) (bc L++bc l)):=hown3;have HG3:Hid (w.grownBy w3 (Value.slice la L.length lc).ownBlock):=hg3;have HL3:Hid ((Value.slice a3 (L.length+l.length) c3).ownBlock=(Value.slice la L.length lc).ownBlock\/∃g,(Value.slice a3 (L.length+l.length) c3).ownBlock=some g/\w.heap.size<=g):=hloc3;clear hown3 hg3 hloc3)
  have hxl:=HB.out.lt
  have nnb:(Value.slice a3 (L.length+l.length) c3).ownBlock≠some xb:=by
    rcases HL3.out with h|⟨g,h,hg⟩
    · rw[h];exact hne
    · rw[h];intro e;cases e;omega
  refine bodyPost_end (v:=.tuple #[]) (results_none (by kernel_rfl) _ _ _) rfl ⟨rfl,.slice a3 (L.length+l.length) c3,HB3.out.set 8 _,?_,HL3.out,?_⟩
  · rw[List.length_append,bc_append]
    exact Sl.grown HO3.out (grown_set _ _ _ _) (λg hg e=>nnb (by rw[hg];exact e.symm))
  · exact(Only.of_grown HG3.out (S:=λk=>k=xb\/(Value.slice la L.length lc).ownBlock=some k) λk h=>.inr h).set (.inl (.inl rfl))
theorem mWriteBr (xb mb rb yb:Nat)(c:Cfg)(keep:Int)(lv v:Value)(L l:List UInt8)(w:World)(hB:Bx w xb 135 (machCells c mb lv (.pointer (some ⟨rb,0,none⟩))))(hR:Bx w rb 137 (runCells yb true keep))(hL:Sl w 5 1 lv L.length (bc L))(hl:Sl w 5 1 v l.length (bc l))(hn:L.length<1099511627776)(hm:l.length<1099511627776)(k:Nat)(hk:(k:Int)=max 0 (min keep l.length)):
    Calls prog 111 #[.pointer (some ⟨xb,0,none⟩),v] w λe w'=>e=.returned (.tuple #[])/\∃lv',Wrote w w' xb mb c lv (.pointer none) (L++l.take k) lv':=by
  obtain⟨i0,hi,hz0,hz1,hz2⟩:=info_parts info_u8
  obtain⟨la,lc,rfl⟩:=hL.form
  obtain⟨va,vc,rfl⟩:=hl.form
  have c8:w.cell? ⟨xb,8,none⟩=some (.slice la L.length lc):=hB.cell (i:=8) rfl
  have c9:w.cell? ⟨xb,9,none⟩=some (.pointer (some ⟨rb,0,none⟩)):=hB.cell (i:=9) rfl
  have r1:w.cell? ⟨rb,1,none⟩=some (.bool true):=hR.cell (i:=1) rfl
  have r2:w.cell? ⟨rb,2,none⟩=some (.int .i64 keep):=hR.cell (i:=2) rfl
  have hne:=hL.ne hB (by decide)
  have HB:Hid (Bx w xb 135 (machCells c mb (.slice la L.length lc) (.pointer (some ⟨rb,0,none⟩)))):=hB
  have HL:Hid (Sl w 5 1 (.slice la L.length lc) L.length (bc L)):=hL
  have Hl:Hid (Sl w 5 1 (.slice va l.length vc) l.length (bc l)):=hl
  have q1:Hid (L.length+l.length<=maxLen):=by show _<=_;unfold maxLen;omega
  have q2:Hid ((L.length+l.length)*1<=140737488355328):=by show _<=_;omega
  have f9:=hB.fr 9
  have hkl:k<=l.length:=by omega
  have hvc:l.length<=vc:=by
    rcases hl.2 with ⟨h',h0⟩|⟨g,off,cap,cur,h',_,hnc,_⟩
    · injection h' with _ h2 _;omega
    · injection h' with _ h2 h3;omega
  have Hk:Hid (Sl w 5 1 (.slice va k vc) k (bc (l.take k))):=by
    have:=hl.cut hkl
    rw[Nat.mul_one] at this
    show Sl w 5 1 (.slice va k vc) k (bc (l.take k))
    rw[bc,List.map_take]
    exact this
  have Hkl:Hid ((l.take k).length=k):=by show _=_;rw[List.length_take];omega
  clear hB hR hL hl
  go_enter func111,ntmps111
  go_upto_region 1 with fail
  go_cut [1] from 2 (λs wz=>s=.slice va k vc/\wz=w)
  case first=>
    by_cases h1:keep<=(l.length:Int)
    · by_cases h2:0<=keep
      · obtain⟨n,rfl⟩:∃n:Nat,keep=n:=⟨keep.toNat,by omega⟩
        obtain rfl:n=k:=by omega
        clear hk
        have e1:min (n:Int) (l.length:Int)=n:=by omega
        have e2:max 0 (n:Int)=n:=by omega
        go_wp2_with fail
        go_meet
        case rel=>exact⟨rfl,rfl⟩
      · obtain rfl:k=0:=by omega
        clear hk
        have e1:min keep (l.length:Int)=keep:=by omega
        have e2:max 0 keep=0:=by omega
        go_wp2_with fail
        go_meet
        case rel=>exact⟨rfl,rfl⟩
    · obtain rfl:k=l.length:=by omega
      clear hk
      have e1:min keep (l.length:Int)=l.length:=by omega
      have e2:max 0 (l.length:Int)=l.length:=by omega
      go_wp2_with fail
      go_meet
      case rel=>exact⟨rfl,rfl⟩
  case rest=>
    obtain⟨rfl,rfl⟩:=hcut
    rename World=>w
    have q1:Hid (L.length+k<=maxLen):=by show _<=_;unfold maxLen;omega
    have q2:Hid ((L.length+k)*1<=140737488355328):=by show _<=_;omega
    have hxl:=HB.out.lt
    have HBn:Hid (Bx (w.setCell ⟨xb,9,none⟩ (.pointer none)) xb 135 (machCells c mb (.slice la L.length lc) (.pointer none))):=HB.out.set 9 _
    have HLn:Hid (Sl (w.setCell ⟨xb,9,none⟩ (.pointer none)) 5 1 (.slice la L.length lc) L.length (bc L)):=HL.out.grown (grown_set _ _ _ _) (λg hg e=>hne (by rw[hg];exact e.symm))
    have hnk:=Hk.out.ne HB.out (by decide)
    have Hkn:Hid (Sl (w.setCell ⟨xb,9,none⟩ (.pointer none)) 5 1 (.slice va k vc) k (bc (l.take k))):=Hk.out.grown (grown_set _ _ _ _) (λg hg e=>hnk (by rw[hg];exact e.symm))
    have HOn:Hid (Only w (w.setCell ⟨xb,9,none⟩ (.pointer none)) (λk=>k=xb\/(Value.slice la L.length lc).ownBlock=some k)):=(Only.refl w _).set (.inl (.inl rfl))
    have hsz:(w.setCell ⟨xb,9,none⟩ (.pointer none)).heap.size=w.heap.size:=by simp
    clear hk HB HL Hl Hk
    go_upto_region 3 with fail
    generalize w.setCell ⟨xb,9,none⟩ (.pointer none)=wn at *
    have c8n:wn.cell? ⟨xb,8,none⟩=some (.slice la L.length lc):=HBn.out.cell (i:=8) rfl
    clear c8 c9 r1 r2 f9
    go_wp2_with (at_builtin;refine wpList_append_bytes _ rfl _ _ 114 rfl _ i0 _ underlying114 hi hz0 hz1 hz2 rfl (.slice la L.length lc) _ _ rfl HLn.out (.slice va k vc) _ _ rfl Hkn.out (bc_one _) q1.out q2.out ?_;intro v3 w3 hown3 hg3 hloc3;obtain⟨a3,c3,rfl⟩:=hown3.form;have HB3:Hid (Bx w3 xb 135 (machCells c mb (.slice la L.length lc) (.pointer none))):=HBn.out.grown hg3 (λe=>hne e.symm);have d8:w3.cell? ⟨xb,8,none⟩=some (.slice la L.length lc):=HB3.out.cell (i:=8) rfl;have f8:=HB3.out.fr 8;have HO3:Hid (Sl w3 5 1 (.slice a3 (L.length+k) c3) (L.length+k) (bc L++bc (l.take k))):=hown3;have HG3:Hid (wn.grownBy w3 (Value.slice la L.length lc).ownBlock):=hg3;have HL3:Hid ((Value.slice a3 (L.length+k) c3).ownBlock=(Value.slice la L.length lc).ownBlock\/∃g,(Value.slice a3 (L.length+k) c3).ownBlock=some g/\wn.heap.size<=g):=hloc3;clear hown3 hg3 hloc3)
    have nnb:(Value.slice a3 (L.length+k) c3).ownBlock≠some xb:=by
      rcases HL3.out with h|⟨g,h,hg⟩
      · rw[h];exact hne
      · rw[h];intro e;cases e;omega
    refine bodyPost_end (v:=.tuple #[]) (results_none (by kernel_rfl) _ _ _) rfl ⟨rfl,.slice a3 (L.length+k) c3,HB3.out.set 8 _,?_,HL3.out.imp (λh=>h) (λ⟨g,h1,h2⟩=>⟨g,h1,by omega⟩),?_⟩
    · rw[List.length_append,bc_append,Hkl.out]
      exact Sl.grown HO3.out (grown_set _ _ _ _) (λg hg e=>nnb (by rw[hg];exact e.symm))
    · exact(HOn.out.trans (Only.of_grown HG3.out (S:=λk=>k=xb\/(Value.slice la L.length lc).ownBlock=some k) λk h=>.inr h) λk h=>.inl h).set (.inl (.inl rfl))
structure UpIs (w:World)(Y:Nat->Prop)(xb mb n0 rb yb:Nat)(c:Cfg)(s:Ts)(L:List UInt8)(br:Bool)(keep:Int)(lv:Value):Prop where
  box:Bx w xb 135 (machCells c mb lv (.pointer (some ⟨rb,0,none⟩)))
  run:Bx w rb 137 (runCells yb br keep)
  log:Sl w 5 1 lv L.length (bc L)
  yard:YardAt w Y yb mb n0 c s
  nx:¬Y xb
  nr:¬Y rb
  nl:∀g,lv.ownBlock=some g->¬Y g
  yl:∀k,Y k->k<w.heap.size
  fm:TyAt w mb tMap
theorem TyAt.kept {w w':World}{k:Nat}{t:TypeId}(h:TyAt w k t)(he:w'.heap[k]? =w.heap[k]?):TyAt w' k t:=by
  unfold TyAt at h ⊢
  rwa [he]
theorem UpIs.apart {w:World}{Y:Nat->Prop}{xb mb n0 rb yb:Nat}{c:Cfg}{s:Ts}{L:List UInt8}{br:Bool}{keep:Int}{lv:Value}(h:UpIs w Y xb mb n0 rb yb c s L br keep lv):mb≠xb/\mb≠rb/\lv.ownBlock≠some mb/\¬Y mb:=
  ⟨λe=>absurd (h.fm.one (e▸h.box.ty)) (by decide),λe=>absurd (h.fm.one (e▸h.run.ty)) (by decide),λe=>absurd (h.fm.one (h.log.ty e)) (by decide),h.yard.nm.1⟩
theorem mAct_no (Y:Nat->Prop)(xb mb n0 rb yb:Nat)(c:Cfg)(s:Ts)(L:List UInt8)(br:Bool)(keep:Int)(lv:Value)(kind lane id num:Int)(pass:Bool)(ea:Option Addr)(en ec:Nat)(k:Int)(hk:k≠0)(w:World)(hU:UpIs w Y xb mb n0 rb yb c s L br keep lv)(hC:∀W,Below w.heap.size w W->Calls prog 110 #[.pointer (some ⟨yb,0,none⟩),.agg #[.int .i64 kind,.int .i64 lane,.slice ea en ec,.int .i64 id,.bool pass,.int .i64 num]] W λe W'=>e=.returned (.int .i64 k)/\Below W.heap.size W W'):
    Calls prog 73 #[.pointer (some ⟨xb,0,none⟩),.agg #[.int .i64 kind,.int .i64 lane,.slice ea en ec,.int .i64 id,.bool pass,.int .i64 num]] w λe w'=>e=.returned (.int .i64 k)/\Below w.heap.size w w':=by
  have hC1:=hC (w.alloc (.cells #[.int .i64 kind,.int .i64 lane,.slice ea en ec,.int .i64 id,.bool pass,.int .i64 num] 140)).drew (below_new_drew _ _)
  have B0:=hU.box.mk (.cells #[.int .i64 kind,.int .i64 lane,.slice ea en ec,.int .i64 id,.bool pass,.int .i64 num] 140)
  have R0:=hU.run.mk (.cells #[.int .i64 kind,.int .i64 lane,.slice ea en ec,.int .i64 id,.bool pass,.int .i64 num] 140)
  have X0:=Bx.new w #[.int .i64 kind,.int .i64 lane,.slice ea en ec,.int .i64 id,.bool pass,.int .i64 num] 140
  have HB0:Hid (Below w.heap.size w (w.alloc (.cells #[.int .i64 kind,.int .i64 lane,.slice ea en ec,.int .i64 id,.bool pass,.int .i64 num] 140))):=below_new _ _
  have hk':(k==0)=false:=by simpa using hk
  clear hC hU
  go_enter func73,ntmps73
  go_upto_region 1 with fail
  generalize w.alloc (.cells #[.int .i64 kind,.int .i64 lane,.slice ea en ec,.int .i64 id,.bool pass,.int .i64 num] 140)=w0 at *
  have c9:w0.cell? ⟨xb,9,none⟩=some (.pointer (some ⟨rb,0,none⟩)):=B0.cell (i:=9) rfl
  have r0:w0.cell? ⟨rb,0,none⟩=some (.pointer (some ⟨yb,0,none⟩)):=R0.cell (i:=0) rfl
  have x0:w0.cell? ⟨w.heap.size,0,none⟩=some (.int .i64 kind):=X0.cell (i:=0) rfl
  have x1:w0.cell? ⟨w.heap.size,1,none⟩=some (.int .i64 lane):=X0.cell (i:=1) rfl
  have x2:w0.cell? ⟨w.heap.size,2,none⟩=some (.slice ea en ec):=X0.cell (i:=2) rfl
  have x3:w0.cell? ⟨w.heap.size,3,none⟩=some (.int .i64 id):=X0.cell (i:=3) rfl
  have x4:w0.cell? ⟨w.heap.size,4,none⟩=some (.bool pass):=X0.cell (i:=4) rfl
  have x5:w0.cell? ⟨w.heap.size,5,none⟩=some (.int .i64 num):=X0.cell (i:=5) rfl
  clear B0 R0 X0
  go_upto_region 3 with fail
  go_region_held_law (λw'=>w'.cell? ⟨xb,9,none⟩=some (.pointer (some ⟨rb,0,none⟩))/\w'.cell? ⟨rb,0,none⟩=some (.pointer (some ⟨yb,0,none⟩))/\w'.cell? ⟨w.heap.size,0,none⟩=some (.int .i64 kind)/\w'.cell? ⟨w.heap.size,1,none⟩=some (.int .i64 lane)/\w'.cell? ⟨w.heap.size,2,none⟩=some (.slice ea en ec)/\w'.cell? ⟨w.heap.size,3,none⟩=some (.int .i64 id)/\w'.cell? ⟨w.heap.size,4,none⟩=some (.bool pass)/\w'.cell? ⟨w.heap.size,5,none⟩=some (.int .i64 num)) (go_keep) ((go_at_call 110;refine hC1.mono ?_;rintro e w2 ⟨rfl,hb2⟩;have c92:=jcell_after hb2 c9;have r02:=jcell_after hb2 r0;have x02:=jcell_after hb2 x0;have x12:=jcell_after hb2 x1;have x22:=jcell_after hb2 x2;have x32:=jcell_after hb2 x3;have x42:=jcell_after hb2 x4;have x52:=jcell_after hb2 x5;have HB2:Hid (Below w0.drew.heap.size w0.drew w2):=hb2;clear hb2))
  all_goals
    go_wp2_with fail
    go_ret
    exact⟨rfl,HB0.out.trans ⟨HB2.out.os,HB2.out.tape,HB2.out.output,HB2.out.size,λk hk=>HB2.out.block k (Nat.lt_of_lt_of_le hk HB0.out.size)⟩⟩
theorem below_trans {w w1 w2:World}(h:Below w.heap.size w w1)(h2:Below w1.heap.size w1 w2):Below w.heap.size w w2:=h.trans (h2.mono h.size)
theorem up_later {w w':World}{Y:Nat->Prop}{xb mb n0 rb yb:Nat}{c:Cfg}{s:Ts}{L:List UInt8}{br:Bool}{keep:Int}{lv:Value}(h:UpIs w Y xb mb n0 rb yb c s L br keep lv)(hb:Below w.heap.size w w'):UpIs w' Y xb mb n0 rb yb c s L br keep lv:=
  ⟨h.box.later hb,h.run.later hb,h.log.later hb,h.yard.later hb,h.nx,h.nr,h.nl,λk hk=>Nat.lt_of_lt_of_le (h.yl k hk) hb.size,h.fm.kept (hb.block _ h.fm.lt)⟩
theorem up_apart {w:World}{Y:Nat->Prop}{xb mb n0 rb yb:Nat}{c:Cfg}{s:Ts}{L:List UInt8}{br:Bool}{keep:Int}{lv:Value}(h:UpIs w Y xb mb n0 rb yb c s L br keep lv):rb≠xb/\(∀g,lv.ownBlock=some g->g≠xb/\g≠rb):=
  ⟨h.run.ne h.box (by decide),λg hg=>⟨λe=>h.log.ne h.box (by decide) (by rw[hg,e]),λe=>h.log.ne h.run (by decide) (by rw[hg,e])⟩⟩
theorem only_cell {w w':World}{S:Nat->Prop}(h:Only w w' S){b o:Nat}{v:Value}(hn:¬S b)(hc:w.cell? ⟨b,o,none⟩=some v):w'.cell? ⟨b,o,none⟩=some v:=
  (World.cell?_of_block (w:=w) (h.block b (jcell_lt hc) hn)).trans hc
def Upto (S:Nat->Prop)(w w':World):Nat->Prop:=λk=>S k\/(w.heap.size<=k/\k<w'.heap.size)
theorem In.tight {w:World}{S:Nat->Prop}{v:Value}(h:In S v){e:TypeId}{size n:Nat}{xs:List Value}(hs:Sl w e size v n xs):In (λk=>S k/\k<w.heap.size) v:=λg hg=>⟨h g hg,hs.lt hg⟩
theorem YardAt.tight {w:World}{S:Nat->Prop}{yb mb n0:Nat}{c:Cfg}{s:Ts}(h:YardAt w S yb mb n0 c s):YardAt w (λk=>S k/\k<w.heap.size) yb mb n0 c s:=by
  obtain⟨q,sb,qv,ov,xt,h,hx⟩:=h
  obtain⟨tl,zs,hr⟩:=h.rest
  refine⟨q,sb,qv,ov,xt,⟨h.qs,h.box,⟨h.que.row,h.que.eds,h.que.fq.tight h.que.row,λy hy=>(h.que.fe y hy).tight (h.que.eds y hy)⟩,h.sub,⟨h.outs.row,h.outs.own.tight h.outs.row⟩,⟨h.fy,h.box.lt⟩,⟨h.fs,h.sub.lt⟩,⟨tl,zs,λe=>hr.nm e.1,hr.ml,hr.tip.imp (λe=>e) λe=>⟨e,hr.map.lt⟩,hr.map,⟨hr.main.fst,hr.main.row,hr.main.own.tight hr.main.row,λy hy=>⟨(hr.main.ids y hy).1,(hr.main.ids y hy).2.tight (hr.main.ids y hy).1⟩⟩,hr.train.snd,hr.train.row,hr.train.own.tight hr.train.row,hr.train.nd,λz hz=>?_⟩,h.nt⟩,hx⟩
  obtain⟨cv,jv,cl,hz⟩:=hr.train.segs z hz
  refine⟨cv,jv,cl,hz.box,⟨hz.chs.fst,hz.chs.row,hz.chs.own.tight hz.chs.row,λy hy=>⟨(hz.chs.eds y hy).1,(hz.chs.eds y hy).2.tight (hz.chs.eds y hy).1⟩⟩,?_,⟨hz.own,hz.box.lt⟩⟩
  have hj:=hz.job
  revert hj
  cases z.2.job with
  |none=>exact λh=>h
  |some j=>
    rintro⟨b,tv,fl,e,hb,hs,ht,hl,k1,k2⟩
    exact⟨b,tv,fl,e,hb,hs,ht,hl,⟨k1,hb.lt⟩,k2.tight hs⟩
structure Acted (w w':World)(Y:Nat->Prop)(xb mb n0 rb yb:Nat)(c:Cfg)(s:Ts)(L:List UInt8)(keep:Int)(lv:Value):Prop where
  up:∃Y' lv',UpIs w' Y' xb mb n0 rb yb c s L false keep lv'/\(∀k,Y' k->Y k\/w.heap.size<=k)/\(lv'.ownBlock=lv.ownBlock\/∃g,lv'.ownBlock=some g/\w.heap.size<=g)
  only:Only w w' (λk=>Y k\/k=xb\/lv.ownBlock=some k)
theorem mAct_ok (Y:Nat->Prop)(xb mb n0 rb yb:Nat)(c:Cfg)(s s':Ts)(L l:List UInt8)(keep:Int)(lv:Value)(kind lane id num:Int)(pass:Bool)(ea:Option Addr)(en ec:Nat)(w:World)(hU:UpIs w Y xb mb n0 rb yb c s L false keep lv)(hL:L.length<1099511627776)(hl:l.length<1099511627776)(hC:∀W,Below w.heap.size w W->Calls prog 110 #[.pointer (some ⟨yb,0,none⟩),.agg #[.int .i64 kind,.int .i64 lane,.slice ea en ec,.int .i64 id,.bool pass,.int .i64 num]] W λe W'=>e=.returned (.int .i64 0)/\Below W.heap.size W W')(hY:∀W,Below w.heap.size w W->Calls prog 112 #[.agg #[.int .i64 kind,.int .i64 lane,.slice ea en ec,.int .i64 id,.bool pass,.int .i64 num]] W λe W'=>∃v',e=.returned v'/\Fresh W W' v' l)(hD:∀W,Only w W (λk=>k=xb\/lv.ownBlock=some k)->YardAt W Y yb mb n0 c s->Calls prog 76 #[.pointer (some ⟨yb,0,none⟩),.agg #[.int .i64 kind,.int .i64 lane,.slice ea en ec,.int .i64 id,.bool pass,.int .i64 num]] W λe W'=>e=.returned (.tuple #[])/\YardAt W' (Plus Y W) yb mb n0 c s'/\Only W W' Y):
    Calls prog 73 #[.pointer (some ⟨xb,0,none⟩),.agg #[.int .i64 kind,.int .i64 lane,.slice ea en ec,.int .i64 id,.bool pass,.int .i64 num]] w λe w'=>e=.returned (.int .i64 0)/\Acted w w' Y xb mb n0 rb yb c s' (L++l) keep lv:=by
  have hC1:=hC (w.alloc (.cells #[.int .i64 kind,.int .i64 lane,.slice ea en ec,.int .i64 id,.bool pass,.int .i64 num] 140)).drew (below_new_drew _ _)
  have X0:=Bx.new w #[.int .i64 kind,.int .i64 lane,.slice ea en ec,.int .i64 id,.bool pass,.int .i64 num] 140
  have HB0:Hid (Below w.heap.size w (w.alloc (.cells #[.int .i64 kind,.int .i64 lane,.slice ea en ec,.int .i64 id,.bool pass,.int .i64 num] 140))):=below_new _ _
  have HU:Hid (UpIs w Y xb mb n0 rb yb c s L false keep lv):=hU
  have hU0:UpIs (w.alloc (.cells #[.int .i64 kind,.int .i64 lane,.slice ea en ec,.int .i64 id,.bool pass,.int .i64 num] 140)) Y xb mb n0 rb yb c s L false keep lv:=up_later hU (below_new _ _)
  have hYW:Hid (∀W,Below w.heap.size w W->Calls prog 112 #[.agg #[.int .i64 kind,.int .i64 lane,.slice ea en ec,.int .i64 id,.bool pass,.int .i64 num]] W λe W'=>∃v',e=.returned v'/\Fresh W W' v' l):=hY
  have hDW:Hid (∀W,Only w W (λk=>k=xb\/lv.ownBlock=some k)->YardAt W Y yb mb n0 c s->Calls prog 76 #[.pointer (some ⟨yb,0,none⟩),.agg #[.int .i64 kind,.int .i64 lane,.slice ea en ec,.int .i64 id,.bool pass,.int .i64 num]] W λe W'=>e=.returned (.tuple #[])/\YardAt W' (Plus Y W) yb mb n0 c s'/\Only W W' Y):=hD
  clear hC hU hY hD
  go_enter func73,ntmps73
  go_upto_region 1 with fail
  generalize w.alloc (.cells #[.int .i64 kind,.int .i64 lane,.slice ea en ec,.int .i64 id,.bool pass,.int .i64 num] 140)=w0 at *
  have c9:w0.cell? ⟨xb,9,none⟩=some (.pointer (some ⟨rb,0,none⟩)):=hU0.box.cell (i:=9) rfl
  have r0:w0.cell? ⟨rb,0,none⟩=some (.pointer (some ⟨yb,0,none⟩)):=hU0.run.cell (i:=0) rfl
  have x0:w0.cell? ⟨w.heap.size,0,none⟩=some (.int .i64 kind):=X0.cell (i:=0) rfl
  have x1:w0.cell? ⟨w.heap.size,1,none⟩=some (.int .i64 lane):=X0.cell (i:=1) rfl
  have x2:w0.cell? ⟨w.heap.size,2,none⟩=some (.slice ea en ec):=X0.cell (i:=2) rfl
  have x3:w0.cell? ⟨w.heap.size,3,none⟩=some (.int .i64 id):=X0.cell (i:=3) rfl
  have x4:w0.cell? ⟨w.heap.size,4,none⟩=some (.bool pass):=X0.cell (i:=4) rfl
  have x5:w0.cell? ⟨w.heap.size,5,none⟩=some (.int .i64 num):=X0.cell (i:=5) rfl
  have HX0:Hid (Bx w0 w.heap.size 140 #[.int .i64 kind,.int .i64 lane,.slice ea en ec,.int .i64 id,.bool pass,.int .i64 num]):=X0
  clear X0 hU0
  go_upto_region 3 with fail
  go_cut [5] from 6 (λt wz=>t=.int .i64 0/\Below w0.heap.size w0 wz)
  case first=>
    go_region_held_law (λw'=>w'.cell? ⟨xb,9,none⟩=some (.pointer (some ⟨rb,0,none⟩))/\w'.cell? ⟨rb,0,none⟩=some (.pointer (some ⟨yb,0,none⟩))/\w'.cell? ⟨w.heap.size,0,none⟩=some (.int .i64 kind)/\w'.cell? ⟨w.heap.size,1,none⟩=some (.int .i64 lane)/\w'.cell? ⟨w.heap.size,2,none⟩=some (.slice ea en ec)/\w'.cell? ⟨w.heap.size,3,none⟩=some (.int .i64 id)/\w'.cell? ⟨w.heap.size,4,none⟩=some (.bool pass)/\w'.cell? ⟨w.heap.size,5,none⟩=some (.int .i64 num)) (go_keep) ((go_at_call 110;refine hC1.mono ?_;rintro e w2 ⟨rfl,hb2⟩;have c92:=jcell_after hb2 c9;have r02:=jcell_after hb2 r0;have x02:=jcell_after hb2 x0;have x12:=jcell_after hb2 x1;have x22:=jcell_after hb2 x2;have x32:=jcell_after hb2 x3;have x42:=jcell_after hb2 x4;have x52:=jcell_after hb2 x5;have HB2:Hid (Below w0.drew.heap.size w0.drew w2):=hb2;clear hb2))
    all_goals
      go_wp2_with fail
      go_meet
      case rel=>exact⟨rfl,HB2.out.os,HB2.out.tape,HB2.out.output,HB2.out.size,HB2.out.block⟩
  case rest=>
    obtain⟨rfl,hbz⟩:=hcut
    rename World=>wz
    have HBZ:Hid (Below w.heap.size w wz):=below_trans HB0.out hbz
    have z0:=jcell_after hbz x0
    have z1:=jcell_after hbz x1
    have z2:=jcell_after hbz x2
    have z3:=jcell_after hbz x3
    have z4:=jcell_after hbz x4
    have z5:=jcell_after hbz x5
    have hYz:=hYW.out wz HBZ.out
    have HUz:Hid (UpIs wz Y xb mb n0 rb yb c s L false keep lv):=up_later HU.out HBZ.out
    have HXz:Hid (Bx wz w.heap.size 140 #[.int .i64 kind,.int .i64 lane,.slice ea en ec,.int .i64 id,.bool pass,.int .i64 num]):=HX0.out.later hbz
    clear c9 r0 x0 x1 x2 x3 x4 x5 hbz hC1 HX0 HB0 hYW
    go_upto_region 7 with fail
    go_fit hYz
    rintro e w3 ⟨v3,rfl,hF⟩
    obtain⟨va,vc,rfl⟩:=row_form hF.1
    have hUz3:=up_later HUz.out hF.2
    have hWr:=mWrite xb mb rb yb c keep lv (.slice va l.length vc) L l w3 hUz3.box hUz3.run hUz3.log (Sl.of_row hF.1) hL hl
    have HB3:Hid (Below w.heap.size w w3):=below_trans HBZ.out hF.2
    have HX3:Hid (Bx w3 w.heap.size 140 #[.int .i64 kind,.int .i64 lane,.slice ea en ec,.int .i64 id,.bool pass,.int .i64 num]):=HXz.out.later hF.2
    have HU3:Hid (UpIs w3 Y xb mb n0 rb yb c s L false keep lv):=hUz3
    clear hF hUz3 hYz HUz HXz z0 z1 z2 z3 z4 z5
    go_upto_region 7 with fail
    go_fit hWr
    rintro e w4 ⟨rfl,lv',hW4⟩
    have hxw:xb<w.heap.size:=HU.out.box.lt
    have hO4:Only w w4 (λk=>k=xb\/lv.ownBlock=some k):=(Only.of_below HB3.out).trans hW4.only λk hk=>.inl hk
    have hX4:Bx w4 w.heap.size 140 #[.int .i64 kind,.int .i64 lane,.slice ea en ec,.int .i64 id,.bool pass,.int .i64 num]:=HX3.out.kept hW4.only (λe=>by
      rcases e with e|e
      · omega
      · have:=HU.out.log.lt e;omega)
    have hap:=up_apart HU.out
    have hR4:Bx w4 rb 137 (runCells yb false keep):=HU3.out.run.kept hW4.only (λe=>by
      rcases e with e|e
      · exact hap.1 e
      · exact(hap.2 rb e).2 rfl)
    have hY4:YardAt w4 Y yb mb n0 c s:=HU.out.yard.kept hO4.size λk hk hS=>hO4.block k hk (λe=>by
      rcases hS with hS|rfl
      · rcases e with e|e
        · subst e;exact HU.out.nx hS
        · exact HU.out.nl k e hS
      · rcases e with e|e
        · exact HU.out.apart.1 e
        · exact HU.out.apart.2.2.1 e)
    have hD4:=hDW.out w4.drew ⟨hO4.os,hO4.tape,hO4.output,hO4.size,hO4.block⟩ (hY4.later ⟨rfl,rfl,rfl,Nat.le_refl _,λ_ _=>rfl⟩)
    have c9:w4.cell? ⟨xb,9,none⟩=some (.pointer (some ⟨rb,0,none⟩)):=hW4.box.cell (i:=9) rfl
    have r0:w4.cell? ⟨rb,0,none⟩=some (.pointer (some ⟨yb,0,none⟩)):=hR4.cell (i:=0) rfl
    have yx0:w4.cell? ⟨w.heap.size,0,none⟩=some (.int .i64 kind):=hX4.cell (i:=0) rfl
    have yx1:w4.cell? ⟨w.heap.size,1,none⟩=some (.int .i64 lane):=hX4.cell (i:=1) rfl
    have yx2:w4.cell? ⟨w.heap.size,2,none⟩=some (.slice ea en ec):=hX4.cell (i:=2) rfl
    have yx3:w4.cell? ⟨w.heap.size,3,none⟩=some (.int .i64 id):=hX4.cell (i:=3) rfl
    have yx4:w4.cell? ⟨w.heap.size,4,none⟩=some (.bool pass):=hX4.cell (i:=4) rfl
    have yx5:w4.cell? ⟨w.heap.size,5,none⟩=some (.int .i64 num):=hX4.cell (i:=5) rfl
    have HW4:Hid (Wrote w3 w4 xb mb c lv (.pointer (some ⟨rb,0,none⟩)) (L++l) lv'):=hW4
    have HO4:Hid (Only w w4 (λk=>k=xb\/lv.ownBlock=some k)):=hO4
    have HR4:Hid (Bx w4 rb 137 (runCells yb false keep)):=hR4
    clear hW4 hO4 hX4 hR4 hY4 hWr hap HX3 HU3 hDW HBZ
    have nY:Hid (¬Y w.heap.size):=λh=>Nat.lt_irrefl _ (HU.out.yl _ h)
    have nX:Hid (¬Y xb):=HU.out.nx
    have nR:Hid (¬Y rb):=HU.out.nr
    go_upto_region 9 with fail
    go_region_held_law (λw'=>w'.cell? ⟨xb,9,none⟩=some (.pointer (some ⟨rb,0,none⟩))/\w'.cell? ⟨rb,0,none⟩=some (.pointer (some ⟨yb,0,none⟩))/\w'.cell? ⟨w.heap.size,0,none⟩=some (.int .i64 kind)/\w'.cell? ⟨w.heap.size,1,none⟩=some (.int .i64 lane)/\w'.cell? ⟨w.heap.size,2,none⟩=some (.slice ea en ec)/\w'.cell? ⟨w.heap.size,3,none⟩=some (.int .i64 id)/\w'.cell? ⟨w.heap.size,4,none⟩=some (.bool pass)/\w'.cell? ⟨w.heap.size,5,none⟩=some (.int .i64 num)) (go_keep) ((go_at_call 76;refine hD4.mono ?_;rintro e w5 ⟨rfl,hY5,hO5⟩;have c95:=only_cell hO5 nX.out c9;have r05:=only_cell hO5 nR.out r0;have v0:=only_cell hO5 nY.out yx0;have v1:=only_cell hO5 nY.out yx1;have v2:=only_cell hO5 nY.out yx2;have v3:=only_cell hO5 nY.out yx3;have v4:=only_cell hO5 nY.out yx4;have v5:=only_cell hO5 nY.out yx5;have HY5:Hid (YardAt w5 (Plus Y w4.drew) yb mb n0 c s'):=hY5;have HO5:Hid (Only w4.drew w5 Y):=hO5;clear hY5 hO5))
    all_goals
      go_wp2_with fail
      go_ret
      have hU:=HU.out
      have h45:w4.heap.size<=w5.heap.size:=HO5.out.size
      have h04:w.heap.size<=w4.heap.size:=HO4.out.size
      have hyt:YardAt w5 (Upto Y w4 w5) yb mb n0 c s':=(HY5.out.tight).mono (λk hk=>by
        rcases hk with ⟨hk|hk,hlt⟩
        · exact .inl hk
        · exact .inr ⟨hk,hlt⟩) (λhk=>by
        have:=HU.out.fm.lt
        rcases hk with hk|hk
        · exact HU.out.apart.2.2.2 hk
        · omega)
      have O45:Only w4 w5 Y:=HO5.out.drew
      have nl':∀g,lv'.ownBlock=some g->¬Y g:=λg hg=>by
        rcases HW4.out.blk with e|⟨g',e,hg'⟩
        · rw[e] at hg;exact hU.nl g hg
        · rw[e] at hg;cases hg
          intro h;have:=hU.yl _ h;have:=HB3.out.size;omega
      have lf:lv'.ownBlock=lv.ownBlock\/∃g,lv'.ownBlock=some g/\w3.heap.size<=g/\g<w4.heap.size:=HW4.out.blk.imp (λh=>h) (λ⟨g,h1,h2⟩=>⟨g,h1,h2,HW4.out.log.lt h1⟩)
      have hrl:rb<w.heap.size:=hU.run.lt
      have up4:∀k,k<w4.heap.size->¬Y k->¬Upto Y w4 w5 k:=λk hk h1 h2=>by
        rcases h2 with h2|h2
        · exact h1 h2
        · omega
      refine⟨rfl,⟨Upto Y w4 w5,lv',⟨HW4.out.box.kept O45 nX.out,HR4.out.kept O45 nR.out,HW4.out.log.kept λg hg=>O45.block g (HW4.out.log.lt hg) (nl' g hg),hyt,?_,?_,?_,?_,?_⟩,?_,?_⟩,?_⟩
      · exact up4 xb (by omega) nX.out
      · exact up4 rb (by omega) nR.out
      · exact λg hg=>up4 g (HW4.out.log.lt hg) (nl' g hg)
      · rintro k (hk|hk)
        · have:=hU.yl k hk;omega
        · exact hk.2
      · refine hU.fm.kept ((O45.block mb (Nat.lt_of_lt_of_le hU.fm.lt h04) hU.apart.2.2.2).trans (HO4.out.block mb hU.fm.lt λe=>?_))
        rcases e with e|e
        · exact hU.apart.1 e
        · exact hU.apart.2.2.1 e
      · rintro k (hk|hk)
        · exact .inl hk
        · exact .inr (by omega)
      · exact lf.imp (λh=>h) (λ⟨g,h1,h2,_⟩=>⟨g,h1,Nat.le_trans HB3.out.size h2⟩)
      · exact(HO4.out.mono λk hk=>.inr hk).trans O45 λk hk=>.inl (.inl hk)
end Go.Proofs.YtgamgomepdfgdaaGreat
