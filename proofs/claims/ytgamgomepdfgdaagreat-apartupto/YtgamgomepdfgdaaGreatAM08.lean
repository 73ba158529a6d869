import Derived.Test.YtgamgomepdfgdaaGreatAM07
set_option maxRecDepth 100000
set_option maxHeartbeats 8000000
namespace Go.Proofs.YtgamgomepdfgdaaGreat
open Go.RowKit Go.Proofs.Tryz
section
open Go.Shelf
def Tryz.sortJ_ren:Go.Shelf.Ren:=⟨fun|6=>151|15=>191|14=>190|28=>232|29=>233|20=>224|21=>225|22=>226|23=>227|24=>228|25=>229|26=>230|27=>231|46=>257|47=>258|48=>259|49=>260|50=>261|57=>271|n=>n,fun|22=>120|24=>124|25=>244|3=>3|39=>276|0=>0|53=>250|55=>256|4=>4|46=>305|45=>304|50=>309|5=>5|9=>9|66=>323|70=>327|76=>335|77=>336|n=>n,fun|n=>n⟩
theorem Tryz.sortJ:Go.Proofs.SlLaysF0.n6 prog Tryz.sortJ_ren:={
 mixed:=by kernel_rfl
 f6:=⟨Tryz.f151.name,by decide,func151.trans (congrArg some (by kernel_rfl))⟩
 f14:=⟨Tryz.f190.name,by decide,func190.trans (congrArg some (by kernel_rfl))⟩
 f15:=func191.trans (congrArg some (by kernel_rfl))
 f20:=⟨Tryz.f224.name,by decide,func224.trans (congrArg some (by kernel_rfl))⟩
 f21:=⟨Tryz.f225.name,by decide,func225.trans (congrArg some (by kernel_rfl))⟩
 f22:=⟨Tryz.f226.name,by decide,func226.trans (congrArg some (by kernel_rfl))⟩
 f23:=⟨Tryz.f227.name,by decide,func227.trans (congrArg some (by kernel_rfl))⟩
 f24:=⟨Tryz.f228.name,by decide,func228.trans (congrArg some (by kernel_rfl))⟩
 f25:=⟨Tryz.f229.name,by decide,func229.trans (congrArg some (by kernel_rfl))⟩
 f26:=⟨Tryz.f230.name,by decide,func230.trans (congrArg some (by kernel_rfl))⟩
 f27:=⟨Tryz.f231.name,by decide,func231.trans (congrArg some (by kernel_rfl))⟩
 f28:=func232.trans (congrArg some (by kernel_rfl))
 f29:=func233.trans (congrArg some (by kernel_rfl))
 f46:=⟨Tryz.f257.name,by decide,func257.trans (congrArg some (by kernel_rfl))⟩
 f47:=func258.trans (congrArg some (by kernel_rfl))
 f48:=func259.trans (congrArg some (by kernel_rfl))
 f49:=⟨Tryz.f260.name,by decide,func260.trans (congrArg some (by kernel_rfl))⟩
 f50:=⟨Tryz.f261.name,by decide,func261.trans (congrArg some (by kernel_rfl))⟩
 f57:=⟨Tryz.f271.name,by decide,func271.trans (congrArg some (by kernel_rfl))⟩
 t0:=underlying0
 a0:=Tryz.isAgg0
 z0:=Tryz.sizeOf0
 v0:=Tryz.zeroValue0
 t3:=underlying3
 a3:=Tryz.isAgg3
 z3:=Tryz.sizeOf3
 v3:=Tryz.zeroValue3
 t4:=underlying4
 a4:=Tryz.isAgg4
 z4:=Tryz.sizeOf4
 v4:=Tryz.zeroValue4
 t5:=underlying5
 a5:=Tryz.isAgg5
 z5:=Tryz.sizeOf5
 v5:=Tryz.zeroValue5
 t9:=underlying9
 a9:=Tryz.isAgg9
 z9:=Tryz.sizeOf9
 v9:=Tryz.zeroValue9
 t22:=underlying120
 a22:=Tryz.isAgg120
 z22:=Tryz.sizeOf120
 v22:=Tryz.zeroValue120
 t25:=underlying244
 a25:=Tryz.isAgg244
 z25:=Tryz.sizeOf244
 v25:=Tryz.zeroValue244
 t39:=underlying276
 a39:=Tryz.isAgg276
 z39:=Tryz.sizeOf276
 v39:=Tryz.zeroValue276
 t45:=underlying304
 a45:=Tryz.isAgg304
 z45:=Tryz.sizeOf304
 v45:=Tryz.zeroValue304
 t46:=underlying305
 a46:=Tryz.isAgg305
 z46:=Tryz.sizeOf305
 v46:=Tryz.zeroValue305
 t50:=underlying309
 a50:=Tryz.isAgg309
 z50:=Tryz.sizeOf309
 v50:=Tryz.zeroValue309
 t53:=underlying250
 a53:=Tryz.isAgg250
 z53:=Tryz.sizeOf250
 v53:=Tryz.zeroValue250
 t55:=underlying256
 a55:=Tryz.isAgg256
 z55:=Tryz.sizeOf256
 v55:=Tryz.zeroValue256
 t66:=underlying323
 a66:=Tryz.isAgg323
 z66:=Tryz.sizeOf323
 v66:=Tryz.zeroValue323
 t70:=underlying327
 a70:=Tryz.isAgg327
 z70:=Tryz.sizeOf327
 v70:=Tryz.zeroValue327
 t76:=underlying335
 a76:=Tryz.isAgg335
 z76:=Tryz.sizeOf335
 v76:=Tryz.zeroValue335
 t77:=underlying336
 a77:=Tryz.isAgg336
 z77:=Tryz.sizeOf336
 v77:=Tryz.zeroValue336}
end
section
open Go.Maps
variable{a:Act}{ops:Array Oper}{ids:List Nat}{q:List Pw}{age n sb:Nat}{E:Prop}{v:Value}{w w':World}
theorem ci {o:Oper}{K:Act->World->Prop}{Q:Exit->Act->World->Prop}(hg:o.guard=none)(m:Operand)(ho:o.op=Op.call {callee:=Callee.builtin Builtin.len,args:=#[m],argTypes:=#[194]})(sb:Nat)(ids:List Nat)(hm:a.eval m=.map (some sb))(hs:dR w sb ids)(hK:K (a.put o.dst (I ids.length)) w):
 if Region.wanted o (yielded ops a.tmps)=true then Oper.wp prog o a w K Q else E:=by
 have d:Region.wanted o (yielded ops a.tmps)=true:=by simp[Region.wanted,hg]
 rw[if_pos d];obtain⟨D,b,c,e⟩:=hs;rw[<-c] at hK;unfold Oper.wp;simp[execOp,ho,resolve,invoke,builtin,hm,b.len tf o.type,Result.andThen];exact hK
theorem dR.later (h:dR w sb ids)(hb:Bl w w'):dR w' sb ids:=h.same (hb.block sb h.lt)
theorem Sl.put_last {x:Pw}(h:Sl w 193 6 v n (q.flatMap (cP age)++cP age x)):Sl w 193 6 v n ((q++[x]).flatMap (cP age)):=by
 rw[r_];simpa using h
def pX (kind lane:Nat)(ea:Option Addr)(en ec id:Nat)(pass:Bool)(num:Nat):Array Value:=#[I kind,I lane,.slice ea en ec,I id,.bool pass,I num]
structure Cf (w wz:World)(yb id lane:Nat)(xt:Xt)(bg nw:Nat)(c:Cfg)(es:List Ed)(q:List Pw)(sb no ni:Nat)(qv ov:Value):Prop where
 ex:∃ge qv',w.heap.size<=ge/\Bx wz yb 201 (aA c xt bg nw qv' sb no ov)/\Sl wz 193 6 qv' (q.length+1) ((q++[((⟨id,lane,0,ni,es⟩:Ch),(.slice (some ⟨ge,0,none⟩) es.length es.length:Value))]).flatMap (cP c.age))/\Sl wz 49 3 (.slice (some ⟨ge,0,none⟩) es.length es.length) es.length (es.flatMap cE)/\(qv'.ownBlock=qv.ownBlock\/∃g,qv'.ownBlock=some g/\w.heap.size<=g)
 only:ai w wz (λk=>k=yb\/qv.ownBlock=some k)
 box:wz.cell? ⟨w.heap.size,3,none⟩=some (I id)
set_option linter.unusedSimpArgs false in
theorem Ay (S:Nat->Prop)(yb mb n0 kind id lane num:Nat)(pass:Bool)(b eo ec:Nat)(es:List Ed)(c:Cfg)(s:Ts)(w:World)(hY:aJ w S yb mb n0 c s)(hn:s.queue.length<=16)(hsm:iA es)(hid:id<=1000000)(hnew:id∉s.ids)(hi:s.ids.length<1048576000)(hlt:b<w.heap.size)(h0:∀i (h:i<es.length),w.cell? ⟨b,eo+i*3,none⟩=some (.string es[i].1))(h1:∀i (h:i<es.length),w.cell? ⟨b,eo+i*3+1,none⟩=some (.string es[i].2.1))(h2:∀i (h:i<es.length),w.cell? ⟨b,eo+i*3+2,none⟩=some (.string es[i].2.2)):
 c_ 115 #[Px yb,.agg (pX kind lane (some ⟨b,eo,none⟩) es.length ec id pass num)] w λe w'=>e=.returned (.tuple #[])/\aJ w' (aE S w) yb mb n0 c {s with ids:=s.ids++[id],queue:=s.queue++[⟨id,lane,0,s.ids.length,es⟩]}/\ai w w' S:=by
 obtain⟨q,B,qv,ov,xt,h,hx⟩:=hY;have HX:=hd hx;obtain⟨i0,al,am,an,ao⟩:=info_parts l8;have aR:q.length<=16:=by rw[h.qlen];exact hn
 have HY:=hd h;obtain⟨u,a,rfl⟩:=h.que.row.form;have aV:=h.box.lt;have aW:yb≠w.heap.size:=by omega
 have aU:w.heap.size≠yb:=by omega
 have hC:=pV es b eo ec (w.alloc (.cells (pX kind lane (some ⟨b,eo,none⟩) es.length ec id pass num) 140)).drew (by simp;omega) (λi hi=>ae (aw w _) (h0 i hi)) (λi hi=>ae (aw w _) (h1 i hi)) (λi hi=>ae (aw w _) (h2 i hi)) hsm.1 (λx hx=>by
  obtain⟨k1,k2,k3⟩:=hsm.2 x hx
  omega)
 have M:=h.que.row.ne h.box (by decide)
 have A:(Value.slice u q.length a).ownBlock≠some w.heap.size:=λe=>by
  have:=h.que.row.lt e;omega
 have z:dR (w.alloc (.cells (pX kind lane (some ⟨b,eo,none⟩) es.length ec id pass num) 140)).drew B s.ids:=h.sub.later (aw w _);have q1:Hid (q.length+1<=maxLen):=by show _<=_;unfold maxLen;omega
 have q2:Hid ((q.length+1)*64<=140737488355328):=by show _<=_;omega
 have B0:Bx (w.alloc (.cells (pX kind lane (some ⟨b,eo,none⟩) es.length ec id pass num) 140)) yb 201 (aA c xt s.begun s.now (.slice u q.length a) B s.outs.length ov):=h.box.mk _;have aa:=hd B0;have J:Hid (Sl (w.alloc (.cells (pX kind lane (some ⟨b,eo,none⟩) es.length ec id pass num) 140)) 193 6 (.slice u q.length a) q.length (q.flatMap (cP c.age))):=h.que.row.mk _;have R:Hid (w.grownBy (w.alloc (.cells (pX kind lane (some ⟨b,eo,none⟩) es.length ec id pass num) 140)) none):=v_ _ _ _;have X0:Bx (w.alloc (.cells (pX kind lane (some ⟨b,eo,none⟩) es.length ec id pass num) 140)) w.heap.size 140 (pX kind lane (some ⟨b,eo,none⟩) es.length ec id pass num):=Bx.new _ _ _;clear h hx h0 h1 h2 hsm;unfold pX;go_enter func115,ntmps115;go_upto_region 1 with fail;unfold pX at hC z B0 aa J R X0;generalize aI:w.alloc (.cells #[I kind,I lane,s_ b eo es.length ec,I id,.bool pass,I num] 140)=w0 at *;have P:w0.heap.size=w.heap.size+1:=by rw[<-aI];simp
 clear aI;have x1:=X0.c 1 (I lane);have x2:=X0.c 2 (s_ b eo es.length ec);have x3:=X0.c 3 (I id);have y1:=B0.c 1 (I c.age);have y9:=B0.c 9 (.slice u q.length a);have ap:=B0.c 10 (.map (some B));have f9:=B0.fr 9;have m:∀(W:World) (v:Value) (o:Nat),(W.setCell ⟨yb,9,none⟩ v).cell? ⟨w.heap.size,o,none⟩=W.cell? ⟨w.heap.size,o,none⟩:=λW v o=>H_ _ _ _ _ (by intro e;injection e with e1 e2;omega);have p:∀(W:World) (v:Value),(W.setCell ⟨yb,9,none⟩ v).cell? ⟨yb,1,none⟩=W.cell? ⟨yb,1,none⟩:=λW v=>H_ _ _ _ _ (by intro e;injection e with e1 e2;omega);have r:∀(W:World) (v:Value),(W.setCell ⟨yb,9,none⟩ v).cell? ⟨yb,10,none⟩=W.cell? ⟨yb,10,none⟩:=λW v=>H_ _ _ _ _ (by intro e;injection e with e1 e2;omega);clear B0 X0;go_cut [31] from 4 (λ_ wz=>Cf w wz yb id lane xt s.begun s.now c es q B s.outs.length s.ids.length (.slice u q.length a) ov)
 case first=>
  refine wp_region_held_drew (S:=(λw'=>w'.cell? ⟨w.heap.size,1,none⟩=some (I lane)/\w'.cell? ⟨w.heap.size,2,none⟩=some (s_ b eo es.length ec)/\w'.cell? ⟨w.heap.size,3,none⟩=some (I id)/\w'.cell? ⟨yb,1,none⟩=some (I c.age)/\w'.cell? ⟨yb,10,none⟩=some (.map (some B)))) (by kernel_rfl) ?_ (λhHeld=>?_)
  ·(try dsimp only);(first|go_keep|(refine⟨?_,?_,?_,?_,?_⟩<;>(first|rw[m]|rw[p]|rw[r])<;>assumption))
  refine tk 0 ?_;refine tk 1 ?_;refine tk 2 ?_;refine tk 3 ?_;refine tk 5 ?_;refine tk 6 ?_;refine tk 7 ?_;refine tk 8 ?_;refine tk 9 ?_;refine tk 10 ?_;refine tk 11 ?_;refine tk 12 ?_;refine tk 13 ?_;refine tk 14 ?_;refine tk 15 ?_;refine tk 16 ?_;refine tk 17 ?_;refine tk 18 ?_;refine tk 20 ?_;refine tk 21 ?_;refine rd_ 4 [19] rfl (λK hK=>?_) ?_
  ·go_simp;refine hK.out _ _ ?_ (λhHeld=>?_)
   ·(try dsimp only);(first|go_keep|(refine⟨?_,?_,?_,?_,?_⟩<;>(first|rw[m]|rw[p]|rw[r])<;>assumption))
   clear hK K;refine rd_ 19 [] rfl (λK hK=>?_) ?_
   ·(refine ci rfl _ rfl B s.ids rfl (by first|exact z|exact H) ?_);refine hK.out _ _ ?_ (λhHeld=>?_)
    ·(try dsimp only);(first|go_keep|(refine⟨?_,?_,?_,?_,?_⟩<;>(first|rw[m]|rw[p]|rw[r])<;>assumption))
    clear hK K;refine rd_ 22 [] rfl (λK hK=>?_) ?_
    ·go_simp;go_wp2_with (go_at_call 167;refine hC.mono ?_;rintro e f ⟨rfl,L,d⟩;have X:=ae d x1;have Y:=ae d x2;have Z:=ae d x3;have aK:=ae d y1;have ag:=ae d y9;have ar:∀o,(f.alloc o).cell? ⟨yb,9,none⟩=some (.slice u q.length a):=(λo=>ae (af f o) ag);have aq:=ae d ap;have aG:f.frozen? ⟨yb,9,none⟩=false:=bF d (aP y9) f9;have H:=z.later d;have U:Hid (Sl f 49 3 (s_ (w.heap.size+1) 0 es.length es.length) es.length (es.flatMap cE)):=(by rw[<-P];exact L);have j:=hd d;have T:Hid (Sl f 193 6 (.slice u q.length a) q.length (q.flatMap (cP c.age))):=Sl.kept J.out (λg t=>d.block g (Sl.lt J.out t));have V:Hid (Bx f yb 201 (aA c xt s.begun s.now (.slice u q.length a) B s.outs.length ov)):=(d.block yb (aP y9)).trans aa.out;clear L d);refine hK.out _ _ ?_ (λhHeld=>?_)
     ·(try dsimp only);(first|go_keep|(refine⟨?_,?_,?_,?_,?_⟩<;>(first|rw[m]|rw[p]|rw[r])<;>assumption))
     clear hK K;refine tk 23 ?_;refine rd_ 24 [] rfl (λK hK=>?_) ?_
     ·go_simp;refine hK.out _ _ ?_ (λhHeld=>?_)
      ·(try dsimp only);(first|go_keep|(refine⟨?_,?_,?_,?_,?_⟩<;>(first|rw[m]|rw[p]|rw[r])<;>assumption))
      clear hK K;refine rd_ 25 [] rfl (λK hK=>?_) ?_
      ·(refine bp rfl _ _ 190 rfl _ i0 _ 6 64 underlying190 al am an ao rfl (by decide) (.slice u q.length a) _ _ rfl (Sl.mk T.out _) ⟨f.heap.size,0,none⟩ 1 1 [I id,I lane,I 0,I c.age,I s.ids.length,s_ (w.heap.size+1) 0 es.length es.length] rfl rfl (au f _ _) (by simp[Value.oneCell']) q1.out q2.out ?_;intro v3 w3 hown3 hg3 hloc3;obtain⟨F,G,rfl⟩:=hown3.form;have aB:=K_ hg3 (ae (af f _) X) (λe=>A e.symm);have aC:=K_ hg3 (ae (af f _) Y) (λe=>A e.symm);have Q:=K_ hg3 (ae (af f _) Z) (λe=>A e.symm);have l:Hid (Bx w3 yb 201 (aA c xt s.begun s.now (.slice u q.length a) B s.outs.length ov)):=(V.out.mk _).grown hg3 (λe=>M e.symm);have aD:w3.cell? ⟨yb,1,none⟩=some (I c.age):=l.out.cell (i:=1) rfl;have aF:w3.cell? ⟨yb,9,none⟩=some (.slice u q.length a):=l.out.cell (i:=9) rfl;have ad:w3.cell? ⟨yb,10,none⟩=some (.map (some B)):=l.out.cell (i:=10) rfl;have av:=l.out.fr 9;have N:=hd hown3;have C:Hid (f.grownBy w3 (Value.slice u q.length a).ownBlock):=(v_ f _ _).trans hg3;have E:Hid ((Value.slice F (q.length+1) G).ownBlock=(Value.slice u q.length a).ownBlock\/∃g,(Value.slice F (q.length+1) G).ownBlock=some g/\f.heap.size<=g):=hloc3.imp (λh=>h) (λ⟨g,h,hle⟩=>⟨g,h,e_ (by simp) hle⟩);clear hown3 hg3 hloc3);refine hK.out _ _ ?_ (λhHeld=>?_)
       ·(try dsimp only);(first|go_keep|(refine⟨?_,?_,?_,?_,?_⟩<;>(first|rw[m]|rw[p]|rw[r])<;>assumption))
       clear hK K;refine tk 26 ?_;refine tk 27 ?_;refine rd_ 28 [] rfl (λK hK=>?_) ?_
       ·go_simp;refine hK.out _ _ ?_ (λhHeld=>?_)
        ·(try dsimp only);(first|go_keep|(refine⟨?_,?_,?_,?_,?_⟩<;>(first|rw[m]|rw[p]|rw[r])<;>assumption))
        clear hK K;refine wpAnyH_done (by kernel_rfl) ?_ _;go_wp2_with fail;go_meet;have b3:=((gE R.out _).trans ⟨j.out.os,j.out.tape,j.out.output,j.out.size,λk hk _=>j.out.block k hk⟩).trans C.out
        have ac:w.heap.size+1<=f.heap.size:=by
         have:=j.out.size;rw[<-P];exact this
        have nn:(Value.slice F (q.length+1) G).ownBlock≠some yb:=by
         rcases E.out with e|⟨g,e,t⟩
         ·rw[e];exact M
         rw[e];intro h;cases h;omega
        have ee:Sl w3 49 3 (s_ (w.heap.size+1) 0 es.length es.length) es.length (es.flatMap cE):=U.out.grown C.out λg t e=>by
         obtain rfl:w.heap.size+1=g:=by simpa[Value.ownBlock] using t
         have:=Sl.lt HY.out.que.row e;omega
        refine⟨⟨w.heap.size+1,.slice F (q.length+1) G,by omega,?_,?_,?_,?_⟩,?_,?_⟩
        ·have:=l.out.set 9 (.slice F (q.length+1) G);rwa [vZ] at this
        ·exact Sl.put_last (Sl.grown N.out (ah _ _ _ _) (λg t e=>nn (by rw[t];exact e.symm)))
        ·exact ee.grown (ah _ _ _ _) (λg t e=>by
          obtain rfl:w.heap.size+1=g:=by simpa[Value.ownBlock] using t
          injection e with e;omega)
        ·exact E.out.imp (λh=>h) (λ⟨g,h,hle⟩=>⟨g,h,by omega⟩)
        ·exact(ai.of_grown b3 (S:=λk=>k=yb\/(Value.slice u q.length a).ownBlock=some k) λk h=>.inr h).set (.inl (.inl rfl))
        rw[H_ _ _ _ _ (by intro e;injection e with e;omega)];exact Q
       exact AllReadyH.nil
      exact AllReadyH.nil
     exact AllReadyH.nil
    exact AllReadyH.nil
   exact AllReadyH.nil
  refine AllReadyH.cons rfl (λK hK=>?_) ?_
  ·(refine ci rfl _ rfl B s.ids rfl (by first|exact z|exact H) ?_);refine hK.out _ _ ?_ (λhHeld=>?_)
   ·(try dsimp only);(first|go_keep|(refine⟨?_,?_,?_,?_,?_⟩<;>(first|rw[m]|rw[p]|rw[r])<;>assumption))
   clear hK K;refine rd_ 4 [22] rfl (λK hK=>?_) ?_
   ·go_simp;refine hK.out _ _ ?_ (λhHeld=>?_)
    ·(try dsimp only);(first|go_keep|(refine⟨?_,?_,?_,?_,?_⟩<;>(first|rw[m]|rw[p]|rw[r])<;>assumption))
    clear hK K;refine rd_ 22 [] rfl (λK hK=>?_) ?_
    ·go_simp;go_wp2_with (go_at_call 167;refine hC.mono ?_;rintro e f ⟨rfl,L,d⟩;have X:=ae d x1;have Y:=ae d x2;have Z:=ae d x3;have aK:=ae d y1;have ag:=ae d y9;have ar:∀o,(f.alloc o).cell? ⟨yb,9,none⟩=some (.slice u q.length a):=(λo=>ae (af f o) ag);have aq:=ae d ap;have aG:f.frozen? ⟨yb,9,none⟩=false:=bF d (aP y9) f9;have H:=z.later d;have U:Hid (Sl f 49 3 (s_ (w.heap.size+1) 0 es.length es.length) es.length (es.flatMap cE)):=(by rw[<-P];exact L);have j:=hd d;have T:Hid (Sl f 193 6 (.slice u q.length a) q.length (q.flatMap (cP c.age))):=Sl.kept J.out (λg t=>d.block g (Sl.lt J.out t));have V:Hid (Bx f yb 201 (aA c xt s.begun s.now (.slice u q.length a) B s.outs.length ov)):=(d.block yb (aP y9)).trans aa.out;clear L d);refine hK.out _ _ ?_ (λhHeld=>?_)
     ·(try dsimp only);(first|go_keep|(refine⟨?_,?_,?_,?_,?_⟩<;>(first|rw[m]|rw[p]|rw[r])<;>assumption))
     clear hK K;refine tk 23 ?_;refine rd_ 24 [] rfl (λK hK=>?_) ?_
     ·go_simp;refine hK.out _ _ ?_ (λhHeld=>?_)
      ·(try dsimp only);(first|go_keep|(refine⟨?_,?_,?_,?_,?_⟩<;>(first|rw[m]|rw[p]|rw[r])<;>assumption))
      clear hK K;refine rd_ 25 [] rfl (λK hK=>?_) ?_
      ·(refine bp rfl _ _ 190 rfl _ i0 _ 6 64 underlying190 al am an ao rfl (by decide) (.slice u q.length a) _ _ rfl (Sl.mk T.out _) ⟨f.heap.size,0,none⟩ 1 1 [I id,I lane,I 0,I c.age,I s.ids.length,s_ (w.heap.size+1) 0 es.length es.length] rfl rfl (au f _ _) (by simp[Value.oneCell']) q1.out q2.out ?_;intro v3 w3 hown3 hg3 hloc3;obtain⟨F,G,rfl⟩:=hown3.form;have aB:=K_ hg3 (ae (af f _) X) (λe=>A e.symm);have aC:=K_ hg3 (ae (af f _) Y) (λe=>A e.symm);have Q:=K_ hg3 (ae (af f _) Z) (λe=>A e.symm);have l:Hid (Bx w3 yb 201 (aA c xt s.begun s.now (.slice u q.length a) B s.outs.length ov)):=(V.out.mk _).grown hg3 (λe=>M e.symm);have aD:w3.cell? ⟨yb,1,none⟩=some (I c.age):=l.out.cell (i:=1) rfl;have aF:w3.cell? ⟨yb,9,none⟩=some (.slice u q.length a):=l.out.cell (i:=9) rfl;have ad:w3.cell? ⟨yb,10,none⟩=some (.map (some B)):=l.out.cell (i:=10) rfl;have av:=l.out.fr 9;have N:=hd hown3;have C:Hid (f.grownBy w3 (Value.slice u q.length a).ownBlock):=(v_ f _ _).trans hg3;have E:Hid ((Value.slice F (q.length+1) G).ownBlock=(Value.slice u q.length a).ownBlock\/∃g,(Value.slice F (q.length+1) G).ownBlock=some g/\f.heap.size<=g):=hloc3.imp (λh=>h) (λ⟨g,h,hle⟩=>⟨g,h,e_ (by simp) hle⟩);clear hown3 hg3 hloc3);refine hK.out _ _ ?_ (λhHeld=>?_)
       ·(try dsimp only);(first|go_keep|(refine⟨?_,?_,?_,?_,?_⟩<;>(first|rw[m]|rw[p]|rw[r])<;>assumption))
       clear hK K;refine tk 26 ?_;refine tk 27 ?_;refine rd_ 28 [] rfl (λK hK=>?_) ?_
       ·go_simp;refine hK.out _ _ ?_ (λhHeld=>?_)
        ·(try dsimp only);(first|go_keep|(refine⟨?_,?_,?_,?_,?_⟩<;>(first|rw[m]|rw[p]|rw[r])<;>assumption))
        clear hK K;refine wpAnyH_done (by kernel_rfl) ?_ _;go_wp2_with fail;go_meet;have b3:=((gE R.out _).trans ⟨j.out.os,j.out.tape,j.out.output,j.out.size,λk hk _=>j.out.block k hk⟩).trans C.out
        have ac:w.heap.size+1<=f.heap.size:=by
         have:=j.out.size;rw[<-P];exact this
        have nn:(Value.slice F (q.length+1) G).ownBlock≠some yb:=by
         rcases E.out with e|⟨g,e,t⟩
         ·rw[e];exact M
         rw[e];intro h;cases h;omega
        have ee:Sl w3 49 3 (s_ (w.heap.size+1) 0 es.length es.length) es.length (es.flatMap cE):=U.out.grown C.out λg t e=>by
         obtain rfl:w.heap.size+1=g:=by simpa[Value.ownBlock] using t
         have:=Sl.lt HY.out.que.row e;omega
        refine⟨⟨w.heap.size+1,.slice F (q.length+1) G,by omega,?_,?_,?_,?_⟩,?_,?_⟩
        ·have:=l.out.set 9 (.slice F (q.length+1) G);rwa [vZ] at this
        ·exact Sl.put_last (Sl.grown N.out (ah _ _ _ _) (λg t e=>nn (by rw[t];exact e.symm)))
        ·exact ee.grown (ah _ _ _ _) (λg t e=>by
          obtain rfl:w.heap.size+1=g:=by simpa[Value.ownBlock] using t
          injection e with e;omega)
        ·exact E.out.imp (λh=>h) (λ⟨g,h,hle⟩=>⟨g,h,by omega⟩)
        ·exact(ai.of_grown b3 (S:=λk=>k=yb\/(Value.slice u q.length a).ownBlock=some k) λk h=>.inr h).set (.inl (.inl rfl))
        rw[H_ _ _ _ _ (by intro e;injection e with e;omega)];exact Q
       exact AllReadyH.nil
      exact AllReadyH.nil
     exact AllReadyH.nil
    exact AllReadyH.nil
   refine AllReadyH.cons rfl (λK hK=>?_) ?_
   ·go_simp;go_wp2_with (go_at_call 167;refine hC.mono ?_;rintro e f ⟨rfl,L,d⟩;have X:=ae d x1;have Y:=ae d x2;have Z:=ae d x3;have aK:=ae d y1;have ag:=ae d y9;have ar:∀o,(f.alloc o).cell? ⟨yb,9,none⟩=some (.slice u q.length a):=(λo=>ae (af f o) ag);have aq:=ae d ap;have aG:f.frozen? ⟨yb,9,none⟩=false:=bF d (aP y9) f9;have H:=z.later d;have U:Hid (Sl f 49 3 (s_ (w.heap.size+1) 0 es.length es.length) es.length (es.flatMap cE)):=(by rw[<-P];exact L);have j:=hd d;have T:Hid (Sl f 193 6 (.slice u q.length a) q.length (q.flatMap (cP c.age))):=Sl.kept J.out (λg t=>d.block g (Sl.lt J.out t));have V:Hid (Bx f yb 201 (aA c xt s.begun s.now (.slice u q.length a) B s.outs.length ov)):=(d.block yb (aP y9)).trans aa.out;clear L d);refine hK.out _ _ ?_ (λhHeld=>?_)
    ·(try dsimp only);(first|go_keep|(refine⟨?_,?_,?_,?_,?_⟩<;>(first|rw[m]|rw[p]|rw[r])<;>assumption))
    clear hK K;refine tk 23 ?_;refine rd_ 4 [24] rfl (λK hK=>?_) ?_
    ·go_simp;refine hK.out _ _ ?_ (λhHeld=>?_)
     ·(try dsimp only);(first|go_keep|(refine⟨?_,?_,?_,?_,?_⟩<;>(first|rw[m]|rw[p]|rw[r])<;>assumption))
     clear hK K;refine rd_ 24 [] rfl (λK hK=>?_) ?_
     ·go_simp;refine hK.out _ _ ?_ (λhHeld=>?_)
      ·(try dsimp only);(first|go_keep|(refine⟨?_,?_,?_,?_,?_⟩<;>(first|rw[m]|rw[p]|rw[r])<;>assumption))
      clear hK K;refine rd_ 25 [] rfl (λK hK=>?_) ?_
      ·(refine bp rfl _ _ 190 rfl _ i0 _ 6 64 underlying190 al am an ao rfl (by decide) (.slice u q.length a) _ _ rfl (Sl.mk T.out _) ⟨f.heap.size,0,none⟩ 1 1 [I id,I lane,I 0,I c.age,I s.ids.length,s_ (w.heap.size+1) 0 es.length es.length] rfl rfl (au f _ _) (by simp[Value.oneCell']) q1.out q2.out ?_;intro v3 w3 hown3 hg3 hloc3;obtain⟨F,G,rfl⟩:=hown3.form;have aB:=K_ hg3 (ae (af f _) X) (λe=>A e.symm);have aC:=K_ hg3 (ae (af f _) Y) (λe=>A e.symm);have Q:=K_ hg3 (ae (af f _) Z) (λe=>A e.symm);have l:Hid (Bx w3 yb 201 (aA c xt s.begun s.now (.slice u q.length a) B s.outs.length ov)):=(V.out.mk _).grown hg3 (λe=>M e.symm);have aD:w3.cell? ⟨yb,1,none⟩=some (I c.age):=l.out.cell (i:=1) rfl;have aF:w3.cell? ⟨yb,9,none⟩=some (.slice u q.length a):=l.out.cell (i:=9) rfl;have ad:w3.cell? ⟨yb,10,none⟩=some (.map (some B)):=l.out.cell (i:=10) rfl;have av:=l.out.fr 9;have N:=hd hown3;have C:Hid (f.grownBy w3 (Value.slice u q.length a).ownBlock):=(v_ f _ _).trans hg3;have E:Hid ((Value.slice F (q.length+1) G).ownBlock=(Value.slice u q.length a).ownBlock\/∃g,(Value.slice F (q.length+1) G).ownBlock=some g/\f.heap.size<=g):=hloc3.imp (λh=>h) (λ⟨g,h,hle⟩=>⟨g,h,e_ (by simp) hle⟩);clear hown3 hg3 hloc3);refine hK.out _ _ ?_ (λhHeld=>?_)
       ·(try dsimp only);(first|go_keep|(refine⟨?_,?_,?_,?_,?_⟩<;>(first|rw[m]|rw[p]|rw[r])<;>assumption))
       clear hK K;refine tk 26 ?_;refine tk 27 ?_;refine rd_ 28 [] rfl (λK hK=>?_) ?_
       ·go_simp;refine hK.out _ _ ?_ (λhHeld=>?_)
        ·(try dsimp only);(first|go_keep|(refine⟨?_,?_,?_,?_,?_⟩<;>(first|rw[m]|rw[p]|rw[r])<;>assumption))
        clear hK K;refine wpAnyH_done (by kernel_rfl) ?_ _;go_wp2_with fail;go_meet;have b3:=((gE R.out _).trans ⟨j.out.os,j.out.tape,j.out.output,j.out.size,λk hk _=>j.out.block k hk⟩).trans C.out
        have ac:w.heap.size+1<=f.heap.size:=by
         have:=j.out.size;rw[<-P];exact this
        have nn:(Value.slice F (q.length+1) G).ownBlock≠some yb:=by
         rcases E.out with e|⟨g,e,t⟩
         ·rw[e];exact M
         rw[e];intro h;cases h;omega
        have ee:Sl w3 49 3 (s_ (w.heap.size+1) 0 es.length es.length) es.length (es.flatMap cE):=U.out.grown C.out λg t e=>by
         obtain rfl:w.heap.size+1=g:=by simpa[Value.ownBlock] using t
         have:=Sl.lt HY.out.que.row e;omega
        refine⟨⟨w.heap.size+1,.slice F (q.length+1) G,by omega,?_,?_,?_,?_⟩,?_,?_⟩
        ·have:=l.out.set 9 (.slice F (q.length+1) G);rwa [vZ] at this
        ·exact Sl.put_last (Sl.grown N.out (ah _ _ _ _) (λg t e=>nn (by rw[t];exact e.symm)))
        ·exact ee.grown (ah _ _ _ _) (λg t e=>by
          obtain rfl:w.heap.size+1=g:=by simpa[Value.ownBlock] using t
          injection e with e;omega)
        ·exact E.out.imp (λh=>h) (λ⟨g,h,hle⟩=>⟨g,h,by omega⟩)
        ·exact(ai.of_grown b3 (S:=λk=>k=yb\/(Value.slice u q.length a).ownBlock=some k) λk h=>.inr h).set (.inl (.inl rfl))
        rw[H_ _ _ _ _ (by intro e;injection e with e;omega)];exact Q
       exact AllReadyH.nil
      exact AllReadyH.nil
     exact AllReadyH.nil
    refine AllReadyH.cons rfl (λK hK=>?_) ?_
    ·go_simp;refine hK.out _ _ ?_ (λhHeld=>?_)
     ·(try dsimp only);(first|go_keep|(refine⟨?_,?_,?_,?_,?_⟩<;>(first|rw[m]|rw[p]|rw[r])<;>assumption))
     clear hK K;refine rd_ 4 [] rfl (λK hK=>?_) ?_
     ·go_simp;refine hK.out _ _ ?_ (λhHeld=>?_)
      ·(try dsimp only);(first|go_keep|(refine⟨?_,?_,?_,?_,?_⟩<;>(first|rw[m]|rw[p]|rw[r])<;>assumption))
      clear hK K;refine rd_ 25 [] rfl (λK hK=>?_) ?_
      ·(refine bp rfl _ _ 190 rfl _ i0 _ 6 64 underlying190 al am an ao rfl (by decide) (.slice u q.length a) _ _ rfl (Sl.mk T.out _) ⟨f.heap.size,0,none⟩ 1 1 [I id,I lane,I 0,I c.age,I s.ids.length,s_ (w.heap.size+1) 0 es.length es.length] rfl rfl (au f _ _) (by simp[Value.oneCell']) q1.out q2.out ?_;intro v3 w3 hown3 hg3 hloc3;obtain⟨F,G,rfl⟩:=hown3.form;have aB:=K_ hg3 (ae (af f _) X) (λe=>A e.symm);have aC:=K_ hg3 (ae (af f _) Y) (λe=>A e.symm);have Q:=K_ hg3 (ae (af f _) Z) (λe=>A e.symm);have l:Hid (Bx w3 yb 201 (aA c xt s.begun s.now (.slice u q.length a) B s.outs.length ov)):=(V.out.mk _).grown hg3 (λe=>M e.symm);have aD:w3.cell? ⟨yb,1,none⟩=some (I c.age):=l.out.cell (i:=1) rfl;have aF:w3.cell? ⟨yb,9,none⟩=some (.slice u q.length a):=l.out.cell (i:=9) rfl;have ad:w3.cell? ⟨yb,10,none⟩=some (.map (some B)):=l.out.cell (i:=10) rfl;have av:=l.out.fr 9;have N:=hd hown3;have C:Hid (f.grownBy w3 (Value.slice u q.length a).ownBlock):=(v_ f _ _).trans hg3;have E:Hid ((Value.slice F (q.length+1) G).ownBlock=(Value.slice u q.length a).ownBlock\/∃g,(Value.slice F (q.length+1) G).ownBlock=some g/\f.heap.size<=g):=hloc3.imp (λh=>h) (λ⟨g,h,hle⟩=>⟨g,h,e_ (by simp) hle⟩);clear hown3 hg3 hloc3);refine hK.out _ _ ?_ (λhHeld=>?_)
       ·(try dsimp only);(first|go_keep|(refine⟨?_,?_,?_,?_,?_⟩<;>(first|rw[m]|rw[p]|rw[r])<;>assumption))
       clear hK K;refine tk 26 ?_;refine tk 27 ?_;refine rd_ 28 [] rfl (λK hK=>?_) ?_
       ·go_simp;refine hK.out _ _ ?_ (λhHeld=>?_)
        ·(try dsimp only);(first|go_keep|(refine⟨?_,?_,?_,?_,?_⟩<;>(first|rw[m]|rw[p]|rw[r])<;>assumption))
        clear hK K;refine wpAnyH_done (by kernel_rfl) ?_ _;go_wp2_with fail;go_meet;have b3:=((gE R.out _).trans ⟨j.out.os,j.out.tape,j.out.output,j.out.size,λk hk _=>j.out.block k hk⟩).trans C.out
        have ac:w.heap.size+1<=f.heap.size:=by
         have:=j.out.size;rw[<-P];exact this
        have nn:(Value.slice F (q.length+1) G).ownBlock≠some yb:=by
         rcases E.out with e|⟨g,e,t⟩
         ·rw[e];exact M
         rw[e];intro h;cases h;omega
        have ee:Sl w3 49 3 (s_ (w.heap.size+1) 0 es.length es.length) es.length (es.flatMap cE):=U.out.grown C.out λg t e=>by
         obtain rfl:w.heap.size+1=g:=by simpa[Value.ownBlock] using t
         have:=Sl.lt HY.out.que.row e;omega
        refine⟨⟨w.heap.size+1,.slice F (q.length+1) G,by omega,?_,?_,?_,?_⟩,?_,?_⟩
        ·have:=l.out.set 9 (.slice F (q.length+1) G);rwa [vZ] at this
        ·exact Sl.put_last (Sl.grown N.out (ah _ _ _ _) (λg t e=>nn (by rw[t];exact e.symm)))
        ·exact ee.grown (ah _ _ _ _) (λg t e=>by
          obtain rfl:w.heap.size+1=g:=by simpa[Value.ownBlock] using t
          injection e with e;omega)
        ·exact E.out.imp (λh=>h) (λ⟨g,h,hle⟩=>⟨g,h,by omega⟩)
        ·exact(ai.of_grown b3 (S:=λk=>k=yb\/(Value.slice u q.length a).ownBlock=some k) λk h=>.inr h).set (.inl (.inl rfl))
        rw[H_ _ _ _ _ (by intro e;injection e with e;omega)];exact Q
       exact AllReadyH.nil
      exact AllReadyH.nil
     exact AllReadyH.nil
    exact AllReadyH.nil
   exact AllReadyH.nil
  exact AllReadyH.nil
 obtain⟨⟨ge,aQ,aN,hB,hR,hE,hL⟩,hO,hX⟩:=hcut;rename World=>wz;have h:=HY.out;have aT:=h.sub.ne_box h.box
 have ax:ak w wz S [201,193]:=ak.mk hO λk hk e=>by
  rcases e with rfl|e
  ·exact⟨h.fy,_,by simp,h.box.ty⟩
  exact⟨h.que.fq k e,_,by simp,h.que.row.ty e⟩
 have aO:=ax.sub h.sub (by decide);obtain⟨D,ab,ay,az⟩:=aO;obtain⟨w4,aS,aH,O⟩:=World.ownsMap.update (w:=wz.drew) ab Cb tf (by unfold maxLen;omega) (Dm (n:=id) (by omega)) (val:=.agg #[]) unitElem_mk;have HU:=hd (dR.put ab.isMap (ab.tidy Cb) ay az hnew aH);have aX:=hB.c 10 (.map (some B));have HM:Hid (dR wz B s.ids):=⟨D,ab,ay,az⟩
 have aj:Hid (ak wz w4 S [gI]):=ak.mk (ai.of_grown (⟨O.os,O.tape,O.output,O.size,O.block⟩:wz.grownBy w4 (some B)) (S:=λk=>k=B) λk hk=>by cases hk;rfl) λk hk e=>by
  subst e;exact⟨h.fs,_,by simp,HM.out.ty⟩
 have aL:Hid (∀k,k<wz.heap.size->k≠B->w4.heap[k]? =wz.heap[k]?):=λk hk hne=>O.block k hk (by simpa using hne);have HB:=hd hB;have HR:=hd hR;have HE:=hd hE;have HL:=hd hL;have HO:=hd ax;clear hB hR hE hL hO ax ab ay az aH O aa J R hC z h x1 x2 x3 y1 y9 ap f9 m p r;go_wp2_with fail;go_region_law (fail)
 all_goals
  have h:=HY.out;obtain⟨tl,zs,hr⟩:=h.rest;have O4:=HO.out.trans aj.out (aE.old w);have hM:=(HO.out.map hr.map (by decide)).same (aL.out _ (HO.out.map hr.map (by decide)).lt h.nt.symm);refine be_ ⟨rfl,⟨q++[((⟨id,lane,0,s.ids.length,es⟩:Ch),(s_ ge 0 es.length es.length:Value))],B,aQ,ov,xt,?_,HX.out⟩,O4.only⟩;refine⟨by rw[w_];exact h.qs.append_right _,aj.out.bx HB.out (by decide),⟨?_,λy hy=>?_,λg t=>?_,λy hy g t=>?_⟩,HU.out,h.outs.keptT O4.k (aE.old w) (by decide),.inl h.fy,.inl h.fs,⟨tl,zs,hr.keptT O4.k (aE.old w) h.np rfl rfl rfl (by simp) (by unfold jA dO;decide) hM⟩,h.nt⟩
  ·rw[a_];exact aj.out.sl HR.out (by decide)
  ·rcases E_.1 hy with hy|hy
   ·exact O4.sl (h.que.eds y hy) (by decide)
   obtain rfl:=o_.1 hy;exact aj.out.sl HE.out (by decide)
  ·rcases HL.out with e|⟨g',e,aM⟩
   ·rw[e] at t;exact .inl (h.que.fq g t)
   rw[e] at t;cases t;exact .inr aM
  rcases E_.1 hy with hy|hy
  ·exact .inl (h.que.fe y hy g t)
  obtain rfl:=o_.1 hy;cases t;exact .inr aN
end
theorem j6 (S:Nat->Prop)(yb mb n0:Nat)(c:Cfg)(s:Ts)(w:World)(hY:aJ w S yb mb n0 c s)(ha:s.acked<s.outs.length):
 c_ 123 #[Px yb] w λe w'=>e=.returned (.tuple #[.agg #[I ((s.acked:Int)+1),I (s.outs[s.acked]'ha).1,I (s.outs[s.acked]'ha).2],.bool true])/\Bl w w':=by
 obtain⟨q,D,C,x,E,h,u⟩:=hY;have hd:s.outs.drop s.acked=s.outs[s.acked]::s.outs.drop (s.acked+1):=M_ ha;have f:=h.outs.row;rw[hd,oc] at f;obtain⟨m,j⟩:∃m,s.outs.length-s.acked=m+1:=⟨s.outs.length-s.acked-1,by omega⟩;rw[j] at f;have g:=oh yb 15 m 201 _ _ _ x _ _ (w.alloc (.cells #[I 0,I 0,I 0] 99)) (h.box.mk _) rfl (f.mk _);generalize s.outs[s.acked]=o at *;clear h u f hd j;go_enter func123,ntmps123;go_wp2_with fail;go_fit g;rintro e b ⟨rfl,a⟩;have y:b.cell? ⟨w.heap.size,0,none⟩=some (I 0):=ae a (by simp);have z:b.cell? ⟨w.heap.size,1,none⟩=some (I 0):=ae a (by simp);have A:b.cell? ⟨w.heap.size,2,none⟩=some (I 0):=ae a (by simp);have B:∀i,b.frozen? ⟨w.heap.size,i,none⟩=false:=λi=>bF a (by simp) ((Bx.new w #[I 0,I 0,I 0] 99).fr i);have l:Hid (Bl w b):=(af _ _).trans (a.mono (by simp));have k:Hid (Bx b w.heap.size 99 #[I 0,I 0,I 0]):=(a.block _ (by simp)).trans (Bx.new w #[I 0,I 0,I 0] 99);clear a g;go_wp2_with fail;have d:=((k.out.set 0 (I ((s.acked:Int)+1))).set 1 (I o.1)).set 2 (I o.2);simp only[P_,List.set_cons_zero,List.set_cons_succ] at d;have n:=ao (ao (ao l.out (b_ _) 0 (I ((s.acked:Int)+1))) (b_ _) 1 (I o.1)) (b_ _) 2 (I o.2);generalize ((b.setCell ⟨w.heap.size,0,none⟩ (I ((s.acked:Int)+1))).setCell ⟨w.heap.size,1,none⟩ (I o.1)).setCell ⟨w.heap.size,2,none⟩ (I o.2)=W at *;have p:=d.c 0 (I ((s.acked:Int)+1));have r:=d.c 1 (I o.1);have t:=d.c 2 (I o.2);exact bodyPost_ret (v:=.tuple #[.agg #[I ((s.acked:Int)+1),I o.1,I o.2],.bool true]) (by simp[results,results123,go_sem,p,r,t]) rfl ⟨rfl,n⟩
theorem j5 (S:Nat->Prop)(yb mb n0:Nat)(c:Cfg)(s:Ts)(w:World)(hY:aJ w S yb mb n0 c s)(ha:s.acked=s.outs.length):
 c_ 123 #[Px yb] w λe w'=>e=.returned (.tuple #[.agg #[I 0,I 0,I 0],.bool false])/\Bl w w':=by
 obtain⟨q,A,z,r,B,h,p⟩:=hY;have f:=h.outs.row;rw[ha,List.drop_length,Nat.sub_self] at f;have g:=od yb 15 201 r _ (w.alloc (.cells #[I 0,I 0,I 0] 99)) (h.box.mk _) rfl (f.mk _);clear h p f;go_enter func123,ntmps123;go_wp2_with fail;go_fit g;rintro e b ⟨rfl,a⟩;have t:b.cell? ⟨w.heap.size,0,none⟩=some (I 0):=ae a (by simp);have u:b.cell? ⟨w.heap.size,1,none⟩=some (I 0):=ae a (by simp);have x:b.cell? ⟨w.heap.size,2,none⟩=some (I 0):=ae a (by simp);have y:∀i,b.frozen? ⟨w.heap.size,i,none⟩=false:=λi=>bF a (by simp) ((Bx.new w #[I 0,I 0,I 0] 99).fr i);have k:Hid (Bl w b):=(af _ _).trans (a.mono (by simp));have j:Hid (Bx b w.heap.size 99 #[I 0,I 0,I 0]):=(a.block _ (by simp)).trans (Bx.new w #[I 0,I 0,I 0] 99);clear a g;go_wp2_with fail;have d:=((j.out.set 0 (I 0)).set 1 (I 0)).set 2 (I 0);simp only[P_,List.set_cons_zero,List.set_cons_succ] at d;have l:=ao (ao (ao k.out (b_ _) 0 (I 0)) (b_ _) 1 (I 0)) (b_ _) 2 (I 0);generalize ((b.setCell ⟨w.heap.size,0,none⟩ (I 0)).setCell ⟨w.heap.size,1,none⟩ (I 0)).setCell ⟨w.heap.size,2,none⟩ (I 0)=W at *;have m:=d.c 0 (I 0);have n:=d.c 1 (I 0);have o:=d.c 2 (I 0);exact bodyPost_ret (v:=.tuple #[.agg #[I 0,I 0,I 0],.bool false]) (by simp[results,results123,go_sem,m,n,o]) rfl ⟨rfl,l⟩
structure nK (w:World)(v:Value)(l:List (Nat×List Nat))(tl:List Tp):Prop where
 fst:tl.map Prod.fst=l
 row:Sl w 110 2 v tl.length (tl.flatMap cTp)
 ids:∀y∈tl,Sl w 3 1 y.2 y.1.2.length (y.1.2.map cI)
abbrev Sgt:=List Nat×Nat×Bool×Nat
abbrev Gv:=Sgt×Value
def cGv (y:Gv):List Value:=[y.2,I y.1.2.1,.bool y.1.2.2.1,I y.1.2.2.2]
def dj (x:Sm):Sgt:=(x.l.map Prod.fst,x.fails,x.by_ !=0,cr x.job)
structure pr (w:World)(v:Value)(l:List Sgt)(gs:List Gv):Prop where
 fst:gs.map Prod.fst=l
 row:Sl w 119 4 v gs.length (gs.flatMap cGv)
 ids:∀y∈gs,Sl w 3 1 y.2 y.1.1.length (y.1.1.map cI)
abbrev Jbt:=Nat×Nat×List Nat×(ByteArray->ByteArray)
abbrev Jv:=Jbt×Value×Value
def cJv (y:Jv):List Value:=[I y.1.1,I y.1.2.1,y.2.1,y.2.2]
def bR:List Sm->List Nat->List Jbt
 |[],_=>[]
 |x::l,acc=>(match x.job with
  |some j=>[(j.num,j.til,acc++x.l.map Prod.fst,j.files)]
  |none=>[])++bR l (acc++x.l.map Prod.fst)
def Ts.jobs (s:Ts):List Jbt:=rkG (λy=>y.1) (bR s.segs []) (s.begun+1)
structure sk (w:World)(N:Nat)(v:Value)(l:List Jbt)(js:List Jv):Prop where
 fst:js.map Prod.fst=l
 row:Sl w 124 4 v js.length (js.flatMap cJv)
 ids:∀y∈js,Sl w 3 1 y.2.1 y.1.2.2.1.length (y.1.2.2.1.map cI)
 tree:∀y∈js,cu w N y.2.2 y.1.2.2.2
theorem AB (S:Nat->Prop)(yb mb n0:Nat)(c:Cfg)(s:Ts)(id:Int)(w:World)(hY:aJ w S yb mb n0 c s)(hq:s.queue.length<=16):
 c_ 110 #[Px yb,.agg #[I 2,I 0,Zn,I id,.bool false,I 0]] w λe w'=>(((∃x∈s.queue,(x.id:Int)=id)/\e=.returned (I 0))\/((¬∃x∈s.queue,(x.id:Int)=id)/\e=.returned (I 5)))/\Bl w w':=by
 obtain⟨q,u,n,o,z,h,b⟩:=hY;have g:=B9 q c.age yb id n _ (w.alloc (.cells #[I 2,I 0,Zn,I id,.bool false,I 0] 140)) (h.box.mk _) rfl (h.que.row.mk _) h.sl (by rw[h.qlen];exact hq)
 have k:(∃x∈q,(x.1.id:Int)=id)↔∃x∈s.queue,(x.id:Int)=id:=by
  constructor
  ·rintro⟨x,b,i⟩;exact⟨x.1,h.qs.mem_iff.1 (q_.2 ⟨x,b,rfl⟩),i⟩
  rintro⟨x,b,i⟩;obtain⟨y,m,rfl⟩:=q_.1 (h.qs.mem_iff.2 b);exact⟨y,m,i⟩
 have d:Hid _:=k;generalize (∃x∈q,(x.1.id:Int)=id)=p at g d;generalize (∃x∈s.queue,(x.id:Int)=id)=r at d ⊢;clear h b k;go_enter func110,ntmps110;go_wp2_with fail;go_fit g;rintro e v ⟨⟨t,rfl,l⟩,a⟩;have j:=hd ((af _ _).trans (a.mono (by simp)));have f:=hd (l.trans d.out);clear l a g d;cases t
 ·go_wp2_with fail;go_ret;exact⟨.inr ⟨λx=>Bool.noConfusion (f.out.2 x),rfl⟩,j.out⟩
 go_wp2_with fail;go_ret;exact⟨.inl ⟨by first|exact f.out.1 rfl|exact f.out.1 trivial,rfl⟩,j.out⟩
theorem AC (yb:Nat)(w:World):
 c_ 110 #[Px yb,.agg #[I 7,I 0,Zn,I 0,.bool false,I 0]] w λe w'=>e=.returned (I 0)/\Bl w w':=by
 go_enter func110,ntmps110;go_wp2_with fail;go_ret;exact⟨rfl,af _ _⟩
theorem AA (S:Nat->Prop)(yb mb n0:Nat)(c:Cfg)(s:Ts)(n:Int)(w:World)(hY:aJ w S yb mb n0 c s)(ha:s.acked<=s.outs.length):
 c_ 110 #[Px yb,.agg #[I 6,I 0,Zn,I 0,.bool false,I n]] w λe w'=>(((s.acked<s.outs.length/\n=(s.acked:Int)+1)/\e=.returned (I 0))\/((¬(s.acked<s.outs.length/\n=(s.acked:Int)+1))/\e=.returned (I 5)))/\Bl w w':=by
 have b:aJ (w.alloc (.cells #[I 6,I 0,Zn,I 0,.bool false,I n] 140)) S yb mb n0 c s:=hY.later (af _ _);by_cases h1:s.acked<s.outs.length
 ·have f:=j6 S yb mb n0 c s _ b h1;generalize s.outs[s.acked]=o at f;have g:=hd h1;clear hY b ha h1;go_enter func110,ntmps110;go_wp2_with fail;go_fit f;rintro e h ⟨rfl,a⟩;have d:=hd ((af _ _).trans (a.mono (by simp)));have j:h.cell? ⟨w.heap.size,5,none⟩=some (I n):=ae a (by simp);have k:∀o,(h.alloc o).cell? ⟨w.heap.size,5,none⟩=some (I n):=λo=>ae (af h o) j;clear a f;by_cases h2:n=(s.acked:Int)+1
  ·subst h2;go_wp2_with fail;go_ret;exact⟨.inl ⟨by first|exact⟨g.out,rfl⟩|exact g.out,rfl⟩,d.out.trans ((af _ _).mono d.out.size)⟩
  have i:(((s.acked:Int)+1)==n)=false:=by simp;omega
  go_wp2_with fail;go_ret;exact⟨.inr ⟨by first|exact(λx=>h2 x.2)|(simp;omega),rfl⟩,d.out.trans ((af _ _).mono d.out.size)⟩
 have f:=j5 S yb mb n0 c s _ b (by omega);have g:=hd h1;clear hY b ha h1;go_enter func110,ntmps110;go_wp2_with fail;go_fit f;rintro e h ⟨rfl,a⟩;have d:=hd ((af _ _).trans (a.mono (by simp)));clear a f;go_wp2_with fail;go_ret;exact⟨.inr ⟨λx=>g.out x.1,rfl⟩,d.out.trans ((af _ _).mono d.out.size)⟩
section
open Go.Sort Go.Shelf
variable{os:Array Obj}{cur:Array Value}{base cap n:Nat}{fr:Nat×Nat}{e:TypeId}{w:World}
abbrev Js:={y:Jv//bD y.2.1/\bD y.2.2}
def cJs (y:Js):List Value:=cJv y.1
instance : Inhabited Js := ⟨⟨((0, 0, [], id), .slice none 0 0, .slice none 0 0), ⟨_, _, _, rfl⟩, ⟨_, _, _, rfl⟩⟩⟩
theorem sC (l:List Js):(flatK cJs 4 l.toArray).toList=l.flatMap cJs:=by
 apply List.ext_getElem?;intro t;by_cases ht:t<l.length*4
 ·have a:t/4<l.length:=by omega
  have e:t=t/4*4+t%4:=by omega
  have f:(l.flatMap cJs)[t]? =(cJs l[t/4])[t%4]? :=by
   conv=>lhs;rw[e]
   exact aq cJs 4 (λ_=>rfl) l (t/4) (t%4) a (by omega)
  have c:t<(flatK cJs 4 l.toArray).size:=by rw[size_flatK];simpa using ht
  rw[f,Array.getElem?_toList,Array.getElem?_eq_getElem c,<-getElem!_pos _ t c,get_flatK _ _ _ t (by simpa using ht)];have d:(l.toArray)[t/4]! =l[t/4]:=by rw[getElem!_pos l.toArray (t/4) (by simpa using a)];simp
  rw[d];have b:t%4<(cJs l[t/4]).length:=by show t%4<4;omega
  rw[getElem!_pos (cJs l[t/4]) (t%4) b,List.getElem?_eq_getElem b]
 rw[List.getElem?_eq_none (by rw[Array.length_toList,size_flatK];simp;omega),List.getElem?_eq_none (by rw[aR cJs 4 (λ_=>rfl)];omega)]
theorem jQ (l:List Js):(flatK cJs 4 l.toArray).size=l.length*4:=by rw[size_flatK];simp
theorem sE {g:Nat}{l:List Js}(hb:w.heap[g]? =some (.cells cur e (0,0)))(ht:cur.toList.take (l.length*4)=l.flatMap cJs):HoldsK cJs 4 w g 0 l.toArray:=by
 intro j hj;have a:j<l.length*4:=by rw[jQ] at hj;exact hj
 refine⟨?_,by simp[World.frozen?,hb]⟩;have b:(cur.toList.take (l.length*4))[j]? =(flatK cJs 4 l.toArray).toList[j]? :=by rw[ht,sC]
 rw[List.getElem?_take_of_lt a,Array.getElem?_toList,Array.getElem?_toList,Array.getElem?_eq_getElem hj] at b;simp only[World.cell?,hb,O_];simp only[Option.isSome_none,Bool.false_eq_true,if_false];rw[b,getElem!_pos (flatK cJs 4 l.toArray) j hj];rfl
theorem oI {g:Nat}(d:Array Js)(hb:w.heap[g]? =some (.cells cur e fr)):
 (sortWorldK cJs 4 w g 0 n d os).heap[g]? =some (.cells (putCells id 0 (flatK cJs 4 d) cur) e fr):=by
 have a:g<w.heap.size:=(j_.1 hb).1;unfold sortWorldK putRowK;rw[heap_grow_old _ _ (by simpa[putRow,mapBlock,Sort.ahead] using a)];simp[putRow,mapBlock,Sort.ahead,Array.getElem?_modify,hb,onCells]
theorem lm {g:Nat}(d:Array Js):w.grownBy (sortWorldK cJs 4 w g 0 n d os) (some g):=by
 unfold sortWorldK putRowK;refine⟨rfl,rfl,rfl,by simp[putRow,mapBlock,Sort.ahead,grow],λk hk hne=>?_⟩;rw[heap_grow_old _ _ (by simpa[putRow,mapBlock,Sort.ahead] using hk)];have:g≠k:=λe=>hne (by rw[e]);simp[putRow,mapBlock,Sort.ahead,Array.getElem?_modify,this]
theorem lW (cur F:Array Value)(h:F.size<=cur.size):(putCells id 0 F cur).toList.take F.size=F.toList:=by
 apply List.ext_getElem?;intro j;by_cases hj:j<F.size
 ·rw[List.getElem?_take_of_lt hj,Array.getElem?_toList,Array.getElem?_toList];simp[putCells,hj,show j<cur.size by omega]
 rw[List.getElem?_take_eq_none (by omega),List.getElem?_eq_none (by simp;omega)]
theorem ll {g:Nat}{ss ts:List Js}(hl:ts.length=ss.length)(hbase:base<=g)(hb:w.heap[g]? =some (.cells cur e (0,0)))(h1:ss.length<=cap)(h2:cap<=maxLen)(h3:cur.size=cap*4):
 (sortWorldK cJs 4 w g 0 n ts.toArray os).ownsRow base e 4 (s_ g 0 ss.length cap) ss.length (ts.flatMap cJs):=by
 refine⟨by rw[aR cJs 4 (λ_=>rfl),hl],.inr ⟨g,cap,_,rfl,hbase,oI _ hb,h1,h2,by simp[putCells,h3],?_⟩⟩;rw[<-hl,<-jQ ts,<-sC ts];exact lW cur _ (by rw[jQ];omega)
theorem vF (a:Int)(w:World):c_ 192 #[I a] w λe w'=>e=.returned (.bool false)/\w'=w:=by
 go_enter func192,ntmps192;go_wp2;go_ret;exact⟨rfl,rfl⟩
def qI (a b:Int):Int:=if a<b then -1 else if b<a then 1 else 0
theorem sD (a b:Int)(w:World):c_ 153 #[I a,I b] w λe w'=>e=.returned (I (qI a b))/\w'=w:=by
 have d:=vF a w;have f:=vF b w;by_cases h1:a<b
 ·have e:qI a b=-1:=if_pos h1;rw[e];go_enter func153,ntmps153;go_wp2_with fail;go_fit d;rintro e c ⟨rfl,rfl⟩;go_wp2_with fail;go_fit f;rintro e c ⟨rfl,rfl⟩;go_wp2_with fail;go_ret;exact⟨rfl,rfl⟩
 by_cases h2:b<a
 ·have e:qI a b=1:=by unfold qI;rw[if_neg h1,if_pos h2]
  rw[e];go_enter func153,ntmps153;go_wp2_with fail;go_fit d;rintro e c ⟨rfl,rfl⟩;go_wp2_with fail;go_fit f;rintro e c ⟨rfl,rfl⟩;go_wp2_with fail;go_ret;exact⟨rfl,rfl⟩
 have e:qI a b=0:=by unfold qI;rw[if_neg h1,if_neg h2]
 rw[e];go_enter func153,ntmps153;go_wp2_with fail;go_fit d;rintro e c ⟨rfl,rfl⟩;go_wp2_with fail;go_fit f;rintro e c ⟨rfl,rfl⟩;go_wp2_with fail;go_ret;exact⟨rfl,rfl⟩
def zL (x y:Js):Int:=qI x.1.1.1 y.1.1.1
theorem ltJ (x y:Js):ltOf zL x y=decide (x.1.1.1<y.1.1.1):=by
 unfold ltOf zL qI;rw[decide_eq_decide];constructor
 ·intro h;split at h
  ·omega
  split at h<;>omega
 intro h;rw[if_pos (by omega)];decide
theorem Fk:SWO (ltOf zL) where
 irrefl x:=by rw[ltJ];simp
 trans x y z h1 h2:=by rw[ltJ] at *;simp at *;omega
 ntrans x y z h1 h2:=by
  rw[ltJ] at *;simp only[decide_eq_false_iff_not] at *;omega
theorem sF (x0 x1 y0 y1:Int)(x2 x3 y2 y3:Value)(h:bD x2/\bD x3/\bD y2/\bD y3)(w:World):
 c_ 152 #[.agg #[I x0,I x1,x2,x3],.agg #[I y0,I y1,y2,y3]] w λe w'=>e=.returned (I (qI x0 y0))/\w'=(w.alloc (.cells #[I x0,I x1,x2,x3] 124)).alloc (.cells #[I y0,I y1,y2,y3] 124):=by
 obtain⟨⟨_,_,_,rfl⟩,⟨_,_,_,rfl⟩,⟨_,_,_,rfl⟩,⟨_,_,_,rfl⟩⟩:=h;have a:=sD x0 y0;generalize qI x0 y0=r at a ⊢;go_enter func152,ntmps152;go_wp2_with (go_at_call 153;refine(a _).mono ?_;rintro e w' ⟨rfl,rfl⟩);go_ret;exact⟨rfl,rfl⟩
theorem Br (x:Js)(v:Value)(hv:v∈cJs x):v.oneCell'=true:=by
 obtain⟨a,n,c,b⟩:=x.2.1;obtain⟨e,g,f,d⟩:=x.2.2;simp only[cJs,cJv,b,d,R_,List.not_mem_nil,or_false] at hv;rcases hv with rfl|rfl|rfl|rfl<;>rfl
theorem zM (blk off size:Nat)(w:World):CmpLays prog 152 #[] cJs 4 zL blk off size w:=by
 intro m os dk _ x y;refine(sF _ _ _ _ _ _ _ _ ⟨x.2.1,x.2.2,y.2.1,y.2.2⟩ _).mono ?_;rintro e a ⟨rfl,rfl⟩;exact⟨rfl,0,_,by rw[alloc_eq_grow,alloc_eq_grow,grow_grow];rfl⟩
theorem zN (l:List Js)(g cap base:Nat)(w:World)(hrow:w.ownsRow base 124 4 (s_ g 0 l.length cap) l.length (l.flatMap cJs))(hn:l.length<8796093022208):
 c_ 151 #[s_ g 0 l.length cap,.func (.func 152) #[] #[]] w λe w'=>
  e=.returned (.tuple #[])/\(∃l':List Js,l'.Perm l/\l'.Pairwise (λa b=>¬b.1.1.1<a.1.1.1)/\w'.ownsRow base 124 4 (s_ g 0 l'.length cap) l'.length (l'.flatMap cJs))/\w.grownBy w' (some g):=by
 rcases hrow.2 with ⟨p,_⟩|⟨F,r,cur,E,d,q,z,A,B,C⟩
 ·cases p
 cases E
 have y:=enters_of func152 (by kernel_rfl) rfl;have o:=AnyQ.slices_SortFunc Tryz.sortJ 4 Tryz.isAgg124 Tryz.sizeOf124 cJs (λ_=>rfl) Br zL Fk 152 #[] g 0 cap l.toArray w y (zM g 0 _ w) (sE q C) (j_.1 q).1 (by simp;omega);have f:c_ 151 #[s_ g 0 l.length cap,.func (.func 152) #[] #[]] w _:=o;refine f.mono ?_;rintro e w' ⟨rfl,c,n,os,t,D,rfl⟩;have m:c.size=l.length:=by simpa using t.1
 have u:c=c.toList.toArray:=by simp
 have k:c.toList.Perm l:=by
  have h:=t.2.2;have v:c.extract 0 l.toArray.size=c:=by rw[List.size_toArray,<-m];exact Array.extract_size
  have x:l.toArray.extract 0 l.toArray.size=l.toArray:=Array.extract_size;rw[v,x] at h;exact h
 refine⟨rfl,⟨c.toList,k,?_,?_⟩,lm _⟩
 ·rw[List.pairwise_iff_getElem];intro i j hi hj hij;have:=D i j (k_ _) hij (by simp only[List.size_toArray];rw[Array.length_toList] at hj;omega);rw[ltJ,decide_eq_false_iff_not] at this;rw[Array.length_toList] at hi hj;rw[getElem!_pos c i hi,getElem!_pos c j hj] at this;simpa using this
 rw[u];have s:c.toList.length=l.length:=by rw[Array.length_toList];exact m
 have:=ll (w:=w) (base:=base) (g:=g) (cap:=cap) (n:=n) (e:=124) (os:=os) (cur:=cur) (ss:=l) (ts:=c.toList) s d q z A B;simpa[s,m] using this
end
end Go.Proofs.YtgamgomepdfgdaaGreat
