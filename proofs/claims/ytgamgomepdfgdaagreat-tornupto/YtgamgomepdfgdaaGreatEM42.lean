import Derived.Test.YtgamgomepdfgdaaGreatEM41
set_option maxRecDepth 100000
set_option maxHeartbeats 8000000
namespace Go.Proofs.YtgamgomepdfgdaaGreat
open Go.RowKit Go.Proofs.Tryz
def Sg.brkS (σ:Sg)(keep:Int):Sg:=⟨σ.rs,true,σ.T,true,keep⟩
def Sg.back (σ:Sg)(keep:Int)(r:Rc):Sg:=⟨(σ.torn keep r).rs++[rc7],true,[],false,keep⟩
def whole (keep:Int)(pump:Bool):Bool:=cut keep (tSize pump)==tSize pump
theorem whole_iff {keep:Int}{pump:Bool}:whole keep pump=true↔((tR pump).bytes.length:Int)<=keep:=by
  rw[tR_len]
  have h:0<tSize pump:=by cases pump<;>decide
  unfold whole cut
  rw[beq_iff_eq]
  omega
def Pe.torn (p:Pe)(b:Bool):Pe:=if b then {p with known:=p.known++[⟨500000,0,tE⟩]} else p
theorem torn_new {c:Cfg}{σ:Sg}{p:Pe}(h:Gd c σ p)(hk:Kp p):500000∉(σ.ts c).ids:=λhm=>by
  rw[<-h.g.pos.ids] at hm
  rcases hk.2 _ hm with h|h<;>omega
theorem torn_ch (c:Cfg)(hc:c.Ok):ChOK c ((500000:Nat):Int) ((0:Nat):Int) tE:=⟨by decide,by decide,by decide,by have:=hc.1.1;omega,tE_ok⟩
theorem torn_can {c:Cfg}{σ:Sg}{p:Pe}{pump:Bool}(h:Gd c σ p)(hk:Kp p)(hc:c.Ok)(hroom:pump=false->(σ.ts c).queue.length<c.queue):(σ.ts c).Can c (tR pump):=by
  cases pump
  · have he:SubErr c (σ.ts c) ((500000:Nat):Int) ((0:Nat):Int) tE 0:=.inr (.inr (.inr ⟨torn_ch c hc,torn_new h hk,hroom rfl,rfl⟩))
    exact(sub_can he rfl).1
  · exact pump_can
structure TornGd (c:Cfg)(σ:Sg)(p:Pe)(keep:Int)(pump:Bool):Prop where
  okb:(σ.brkS keep).Ok c g0
  okt:(σ.torn keep (tR pump)).Ok c g0
  okr:(σ.back keep (tR pump)).Ok c g0
  gd:Gd0 c (σ.back keep (tR pump)) (p.torn (!pump&&whole keep pump))
  nt:NotedJ (p.torn (!pump&&whole keep pump)).jobs ((σ.back keep (tR pump)).ts c).segs
  bud:Go.Proofs.YtgamgomepdfgdaaGreat.bud c (σ.back keep (tR pump))<=Go.Proofs.YtgamgomepdfgdaaGreat.bud c σ+3
  lt:(σ.torn keep (tR pump)).rs.length<=σ.rs.length+1
  que:pump=false->waitsB (tellQ c.age ((σ.back keep (tR pump)).ts c).queue) 500000=whole keep pump
theorem torn_gd {c:Cfg}{σ:Sg}{p:Pe}(keep:Int)(pump:Bool)(h:Gd c σ p)(hk:Kp p)(hc:c.Ok)(hroom:pump=false->(σ.ts c).queue.length<c.queue):TornGd c σ p keep pump:=by
  have hcan:=torn_can h hk hc hroom
  have okb:(σ.brkS keep).Ok c g0:=by
    have:=h.g.ok.brk keep
    rw[(torn_act (r:=tR pump) h.g.up).1] at this
    exact this
  have okt:(σ.torn keep (tR pump)).Ok c g0:=by
    have:=okb.act (r:=tR pump) (err:=0) hc λ_=>hcan
    have e:=(torn_act (keep:=keep) (r:=tR pump) h.g.up).2
    unfold Sg.brkS at this
    rw[e] at this
    exact this
  by_cases hw:whole keep pump=true
  · have hle:=whole_iff.1 hw
    have hrs:(σ.torn keep (tR pump)).rs=σ.rs++[tR pump]:=by unfold Sg.torn;rw[if_pos hle]
    have hl:(σ.torn keep (tR pump)).rs.length<=σ.rs.length+1:=by rw[hrs];simp
    obtain⟨σ1,p1,hp1,hr1,hG1,hb1,hq1⟩:∃σ1 p1,p.torn (!pump&&true)=p1/\σ1.rs=σ.rs++[tR pump]/\Gd0 c σ1 p1/\Go.Proofs.YtgamgomepdfgdaaGreat.bud c σ1<=Go.Proofs.YtgamgomepdfgdaaGreat.bud c σ+2/\(pump=false->∃x∈(σ1.ts c).queue,x.id=500000):=by
      cases pump
      · obtain⟨a1,a2,a3,a4,a5⟩:=h.sub (id:=500000) (lane:=0) hc (torn_ch c hc) (torn_new h hk) (hroom rfl)
        have hact:σ.sub ((500000:Nat):Int) ((0:Nat):Int) tE 0=(0,{σ with rs:=σ.rs++[⟨1,0,500000,false,tE⟩]}):=Sg.act_ok h.g.up h.g.br
        refine⟨_,_,rfl,by rw[hact];rfl,a2.g,?_,λ_=>⟨_,by rw[a4];exact List.mem_append_right _ (List.mem_singleton.2 rfl),rfl⟩⟩
        exact Subd.bud (p:=p) (p':={p with known:=p.known++[⟨500000,0,tE⟩]}) (.inr ⟨torn_new h hk,hroom rfl,a4,a5,rfl⟩)
      · obtain⟨a1,a2,a3,a4⟩:=h.pump0 hc
        have hact:σ.pump=(0,{σ with rs:=σ.rs++[⟨3,0,0,false,[]⟩]}):=Sg.act_ok h.g.up h.g.br
        refine⟨_,_,rfl,by rw[hact];rfl,a1,?_,λh=>by cases h⟩
        unfold Go.Proofs.YtgamgomepdfgdaaGreat.bud
        rw[a3,a4,(pump_same c _).1,(pump_same c _).2.2]
        omega
    have hback:(σ.back keep (tR pump)).rs=σ1.rs++[rc7]:=by unfold Sg.back;rw[hrs,hr1]
    obtain⟨g1,g2,g3⟩:=hG1.lost hback rfl rfl rfl
    rw[<-hp1] at g1 g3
    refine⟨okb,okt,g1.ok,by rw[hw];exact g1,by rw[hw];exact g3,?_,hl,λhp=>?_⟩
    · unfold Go.Proofs.YtgamgomepdfgdaaGreat.bud at hb1 ⊢
      rw[g2,hback,List.length_append,List.length_singleton]
      show σ1.rs.length+1+((σ1.ts c).ids.length-(σ1.ts c).acked)<=_
      omega
    · rw[hw]
      refine(waitsB_iff (g1.ok.fits.inv hc).1 hc).2 ?_
      show ∃x∈((σ.back keep (tR pump)).ts c).queue,_
      rw[g2]
      exact hq1 hp
  · have hle:¬((tR pump).bytes.length:Int)<=keep:=λe=>hw (whole_iff.2 e)
    have hwf:whole keep pump=false:=by simpa using hw
    have hrs:(σ.torn keep (tR pump)).rs=σ.rs:=by unfold Sg.torn;rw[if_neg hle]
    have hback:(σ.back keep (tR pump)).rs=σ.rs++[rc7]:=by unfold Sg.back;rw[hrs]
    obtain⟨g1,g2,g3⟩:=h.g.lost hback rfl rfl rfl
    have hp:p.torn (!pump&&whole keep pump)=p:=by rw[hwf,Bool.and_false];rfl
    refine⟨okb,okt,g1.ok,by rw[hp];exact g1,by rw[hp];exact g3,?_,by rw[hrs];omega,λhp=>?_⟩
    · unfold Go.Proofs.YtgamgomepdfgdaaGreat.bud
      rw[g2,hback,List.length_append,List.length_singleton]
      show σ.rs.length+1+((σ.ts c).ids.length-(σ.ts c).acked)<=_
      omega
    · rw[hwf]
      cases hb:waitsB (tellQ c.age ((σ.back keep (tR pump)).ts c).queue) 500000
      · rfl
      · obtain⟨x,hx,e⟩:=(waitsB_iff (g1.ok.fits.inv hc).1 hc).1 hb
        have hx:x∈((σ.back keep (tR pump)).ts c).queue:=hx
        rw[g2] at hx
        have:=(h.g.ok.fits.inv hc).1.inn x hx
        rw[e] at this
        exact absurd this (torn_new h hk)
theorem Tn.brk {w W:World}{pb xb:Nat}{c:Cfg}{σ:Sg}{p:Pe}(h:Tn w W pb xb c σ p)(hu:σ.up=true)(keep:Int):
    Calls prog 29 #[.pointer (some ⟨xb,0,none⟩),.int .i64 keep] W λe w'=>e=.returned (.int .i64 0)/\Tn w w' pb xb c (σ.brkS keep) p:=
  h.call λX hX _=>by
    have:=pBreak X xb c σ 0 g0 keep W hX
    rw[(torn_act (r:=tR true) hu).1] at this
    exact this
theorem Tn.pumpT {w W:World}{pb xb:Nat}{c:Cfg}{σ:Sg}{p:Pe}{keep:Int}(h:Tn w W pb xb c (σ.brkS keep) p)(hu:σ.up=true)(hok:(σ.brkS keep).Ok c g0)(hc:c.Ok)(hn:σ.rs.length<1048576):
    Calls prog 30 #[.pointer (some ⟨xb,0,none⟩)] W λe w'=>e=.returned (.int .i64 8)/\Tn w w' pb xb c (σ.torn keep (tR true)) p:=
  h.call λX hX _=>by
    have:=pPump X xb c (σ.brkS keep) 0 g0 W hX hok hc hn (by decide)
    have e:(σ.brkS keep).pump=(8,σ.torn keep (tR true)):=(torn_act (r:=tR true) hu).2
    rw[e] at this
    exact this
theorem Tn.recover {w W:World}{pb xb:Nat}{c:Cfg}{σ:Sg}{p:Pe}{keep:Int}{r:Rc}(h:Tn w W pb xb c (σ.torn keep r) p)(hok:(σ.torn keep r).Ok c g0)(hc:c.Ok)(hn:(σ.torn keep r).rs.length<1048576):
    Calls prog 32 #[.pointer (some ⟨xb,0,none⟩)] W λe w'=>e=.returned (.int .i64 0)/\Tn w w' pb xb c (σ.back keep r) p:=
  h.call λX hX _=>by
    have:=pRecover X xb c (σ.torn keep r) 0 g0 W hX hok hc hn (by decide)
    rw[torn_back] at this
    exact this
theorem Tn.subT {w W:World}{pb xb:Nat}{c:Cfg}{σ:Sg}{p:Pe}{keep:Int}(h:Tn w W pb xb c (σ.brkS keep) p)(hG:Gd c σ p)(hk:Kp p)(hok:(σ.brkS keep).Ok c g0)(hc:c.Ok)(hn:σ.rs.length<1048576):
    Calls prog 31 #[.pointer (some ⟨xb,0,none⟩),.int .i64 500000,.int .i64 0,.slice (some ⟨W.heap.size,0,none⟩) 1 1] (W.alloc (.cells #[.string ⟨#[116,111,114,110]⟩,.string ⟨#[]⟩,.string ⟨#[120]⟩] 49)) λe w'=>(c.queue<=(σ.ts c).queue.length/\e=.returned (.int .i64 4)/\Tn w w' pb xb c (σ.brkS keep) p)\/((σ.ts c).queue.length<c.queue/\e=.returned (.int .i64 8)/\Tn w w' pb xb c (σ.torn keep (tR false)) p):=by
  have hu:=hG.g.up
  have hb:=below_new W (.cells #[.string ⟨#[116,111,114,110]⟩,.string ⟨#[]⟩,.string ⟨#[120]⟩] 49)
  obtain⟨U,hU1,hU2,hU3⟩:=h
  have hch:=torn_ch c hc
  have hE:EditsAt (W.alloc (.cells #[.string ⟨#[116,111,114,110]⟩,.string ⟨#[]⟩,.string ⟨#[120]⟩] 49)) (.slice (some ⟨W.heap.size,0,none⟩) tE.length 1) tE:=by
    refine .inr ⟨W.heap.size,0,1,rfl,by simp,λi hi=>?_,λi hi=>?_,λi hi=>?_⟩
    · obtain rfl:i=0:=by have:i<1:=hi;omega
      exact(Bx.new W _ _).cell (i:=0) rfl
    · obtain rfl:i=0:=by have:i<1:=hi;omega
      exact(Bx.new W _ _).cell (i:=1) rfl
    · obtain rfl:i=0:=by have:i<1:=hi;omega
      exact(Bx.new W _ _).cell (i:=2) rfl
  have hcall:∀err,SubErr c (σ.ts c) ((500000:Nat):Int) ((0:Nat):Int) tE err->∀k σ',(σ.brkS keep).sub ((500000:Nat):Int) ((0:Nat):Int) tE err=(k,σ')->Calls prog 31 #[.pointer (some ⟨xb,0,none⟩),.int .i64 500000,.int .i64 0,.slice (some ⟨W.heap.size,0,none⟩) 1 1] (W.alloc (.cells #[.string ⟨#[116,111,114,110]⟩,.string ⟨#[]⟩,.string ⟨#[120]⟩] 49)) λe w'=>e=.returned (.int .i64 k)/\Tn w w' pb xb c σ' p:=λerr he k σ' hs=>by
    have hp:=hU1.later hb
    refine(hp.call (a:=(k,σ')) λX hX hXU=>?_).mono ?_
    · have:=pSubmit X xb c (σ.brkS keep) 0 g0 ((500000:Nat):Int) ((0:Nat):Int) err tE (some ⟨W.heap.size,0,none⟩) 1 _ hX hok hc hn he hE (by decide) (by decide) λb e hXb=>by
        cases e
        exact absurd (hU1.lt _ (hXU _ hXb)) (Nat.lt_irrefl _)
      rw[hs] at this
      exact this
    · rintro e w' ⟨he,U',g1,g2⟩
      obtain⟨f1,f2⟩:=far (hU2.trans (hb.mono hU2.size)) hU3 g2
      exact⟨he,U',g1,f1,f2⟩
  by_cases hfu:c.queue<=(σ.ts c).queue.length
  · refine(hcall 4 (.inr (.inr (.inl ⟨hch,torn_new hG hk,hfu,rfl⟩))) 4 (σ.brkS keep) (Sg.act_no rfl (by decide))).mono ?_
    rintro e w' ⟨he,h'⟩
    exact .inl ⟨hfu,he,h'⟩
  · refine(hcall 0 (.inr (.inr (.inr ⟨hch,torn_new hG hk,by omega,rfl⟩))) 8 (σ.torn keep (tR false)) (torn_act (r:=tR false) hu).2).mono ?_
    rintro e w' ⟨he,h'⟩
    exact .inr ⟨by omega,he,h'⟩
end Go.Proofs.YtgamgomepdfgdaaGreat
