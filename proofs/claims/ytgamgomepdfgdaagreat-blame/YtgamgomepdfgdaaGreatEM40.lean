import Derived.Test.YtgamgomepdfgdaaGreatRows
import Derived.ProofKit
import Derived.SizedLaws
import Derived.Deep.Slices
import Derived.OpenShut
import Derived.JoinedCond
import Derived.Test.YtgamgomepdfgdaaGreatEM39
set_option maxRecDepth 100000
set_option maxHeartbeats 8000000
namespace Go.Proofs.YtgamgomepdfgdaaGreat
open Go.RowKit Go.Proofs.Tryz
theorem pNew0 (c:Cfg)(w:World)(hc:c.Ok):
    Calls prog 37 #[.agg #[.int .i64 c.lanes,.int .i64 c.age,.int .i64 c.batch,.int .i64 c.window,.int .i64 c.retries,.int .i64 c.deadline,.int .i64 c.queue],.slice none 0 0] w λe w'=>∃xb,e=.returned (.tuple #[.pointer (some ⟨xb,0,none⟩),.int .i64 0])/\ProgIs w' (λk=>w.heap.size<=k/\k<w'.heap.size) xb c Sg.zero 0 g0/\Below w.heap.size w w':=by
  have hg:Good okFl Prod.fst ([]:List Fl):=⟨λf hf=>(by cases hf),List.Pairwise.nil⟩
  have hk:CfgOk c.lanes c.age c.batch c.window c.retries c.deadline c.queue:=by
    obtain⟨h0,h1,h2,h3,h4,h5,h6⟩:=hc
    unfold CfgOk
    omega
  refine(mNew c [] none 0 0 w hk (.inl ⟨rfl,_,_,rfl⟩) (by decide) λf hf=>(by cases hf)).mono ?_
  rintro e w' ⟨h|h,hb⟩
  · obtain⟨_,xb,rfl,⟨Y,mb,rb,yb,hU,hM,h1,h2,h3,h4,h5,h6⟩,hnew⟩:=h
    exact⟨xb,rfl,.inl ⟨rfl,⟨⟨mb,.slice none 0 0,Y,rb,yb,0,hM,hU,λh=>(by cases h),⟨h1,hM.lt⟩,⟨h2,hU.run.lt⟩,λk hk=>⟨h6 k hk,hU.yl k hk⟩,by simp[Value.ownBlock],h3,h4,h5⟩,⟨hnew,hU.box.lt⟩,λk hk=>hk.2⟩⟩,hb⟩
  · exact absurd hg h.1
theorem pp_new {w w1:World}{c:Cfg}{xb:Nat}(h:ProgIs w1 (λk=>w.heap.size<=k/\k<w1.heap.size) xb c Sg.zero 0 g0)(hs:w.heap.size<=w1.heap.size):
    Pp (w1.alloc (.cells (plC xb c (.slice none 0 0) (.slice none 0 0) (.slice none 0 0) (.slice none 0 0) 0 0) 58)) (λk=>w.heap.size<=k/\k<w1.heap.size+1) w1.heap.size xb c Sg.zero Pe.zero:=by
  refine⟨⟨_,λ_=>False,λk=>k=w1.heap.size,⟨.slice none 0 0,.slice none 0 0,.slice none 0 0,.slice none 0 0,[],[]⟩,h.later (below_new _ _),?_,λk hk=>⟨id,λe=>Nat.lt_irrefl _ (e▸hk.2)⟩,?_⟩,λk hk=>by simpa using hk.2⟩
  · refine⟨Bx.new _ _ _,rfl,rfl,?_,?_,λy hy=>(by cases hy),λy hy=>(by cases hy),λy hy=>(by cases hy),⟨.inl ⟨rfl,_,_,rfl⟩,by simp[Value.ownBlock]⟩,?_,⟨rfl,by simp[Value.ownBlock],by simp[Value.ownBlock],by simp[Value.ownBlock]⟩,λk hk=>hk.elim,λk hk=>?_⟩
    · exact Sl.nil _ _ _
    · exact Sl.nil _ _ _
    · exact Sl.nil _ _ _
    · rcases hk with hk|hk
      · exact hk.elim
      · rw[hk];simp
  · rintro k (hk|hk|hk)
    · exact⟨hk.1,by omega⟩
    · exact hk.elim
    · have:k=w1.heap.size:=hk
      exact⟨by omega,by omega⟩
def StAt (w w':World)(pb xb:Nat)(c:Cfg)(s:Ts)(n:Nat):Prop:=∃σ p U,Pp w' U pb xb c σ p/\Below w.heap.size w w'/\(∀k,U k->w.heap.size<=k)/\Gd c σ p/\σ.ts c=s/\Kp p/\bud c σ<=n
theorem far {w w1 w2:World}{U U':Nat->Prop}(hb:Below w.heap.size w w1)(hU:∀k,U k->w.heap.size<=k)(hg:Grows w1 w2 U U'):Below w.heap.size w w2/\∀k,U' k->w.heap.size<=k:=
  ⟨below_only hb hg.only hU,λk hk=>(hg.sub k hk).elim (hU k) λh=>Nat.le_trans hb.size h⟩
theorem st_submit {w W:World}{U:Nat->Prop}{pb xb:Nat}{c:Cfg}{b:Nat}(h:Pp W U pb xb c Sg.zero Pe.zero)(hb:Below w.heap.size w W)(hU:∀k,U k->w.heap.size<=k)(hc:c.Ok)(hE:EditsAt W (.slice (some ⟨b,0,none⟩) 1 1) fE)(hnb:¬U b):
    Calls prog 21 #[.pointer (some ⟨pb,0,none⟩),.int .i64 1000000,.int .i64 0,.slice (some ⟨b,0,none⟩) 1 1] W λe w'=>e=.returned (.bool true)/\StAt w w' pb xb c fS1 2:=by
  have hb0:bud c Sg.zero=0:=rfl
  refine(pl_submit U pb xb c Sg.zero Pe.zero 1000000 0 fE (some ⟨b,0,none⟩) 1 W h (zero_gd c) hc (by omega) ⟨by decide,by decide,by decide,by have:=hc.1.1;omega,fE_ok⟩ hE (Nat.le_refl _) λq hq=>by cases hq;exact hnb).mono ?_
  rintro e w' ⟨he,σ',p',U',h1,h2,h3,h4⟩
  obtain⟨f1,f2⟩:=far hb hU h2
  have hbd:=h4.bud
  rcases h4 with ⟨h5,_,_⟩|⟨_,_,h5,h6,h7⟩
  · rcases h5 with h5|h5
    · cases h5
    · have h8:c.queue<=0:=h5
      have:=hc.2.2.2.2.2.2.1
      omega
  · exact⟨he,σ',p',U',h1,f1,f2,h3,h5,by rw[h7];exact⟨Nat.zero_lt_succ _,λi hi=>.inr (by simpa[Pe.zero] using hi)⟩,by omega⟩
theorem st_pump {w W:World}{pb xb:Nat}{c:Cfg}{s s':Ts}{n:Nat}(h:StAt w W pb xb c s n)(hc:c.Ok)(hs:{s.pump c with acked:=(s.pump c).outs.length}=s')(hn:n<1000):
    Calls prog 19 #[.pointer (some ⟨pb,0,none⟩)] W λe w'=>e=.returned (.bool true)/\StAt w w' pb xb c s' (n+1):=by
  obtain⟨σ,p,U,hp,hb,hU,hG,rfl,hk,hbd⟩:=h
  refine(pl_pump U pb xb c σ p W hp hG hc (by omega)).mono ?_
  rintro e w' ⟨he,σ',p',U',h1,h2,h3,h4⟩
  obtain⟨f1,f2⟩:=far hb hU h2
  exact⟨he,σ',p',U',h1,f1,f2,h3,h4.ts.trans hs,known_pos h4.kn hk,by have:=h4.bud;omega⟩
theorem st_ends {w W:World}{pb xb:Nat}{c:Cfg}{n:Nat}(h:StAt w W pb xb c (fS2 c) n)(hc:c.Ok)(hn:n<1000):
    Calls prog 59 #[.pointer (some ⟨pb,0,none⟩),.int .i64 0,.bool true] W λe w'=>e=.returned (.bool true)/\StAt w w' pb xb c fS3 (n+1):=by
  obtain⟨σ,p,U,hp,hb,hU,hG,hs,hk,hbd⟩:=h
  refine(pl_ends U pb xb c σ p 0 true W hp hG hc (by omega) (by decide)).mono ?_
  rintro e w' ⟨he,σ',p',U',h1,h2,h3,h4⟩
  obtain⟨f1,f2⟩:=far hb hU h2
  have hbd':=h4.bud
  rw[Endd,hs] at h4
  rcases h4 with ⟨h5,_⟩|⟨y,hy,h5,_,h7⟩
  · exact absurd h5 (f_jobs0 c)
  · rw[f_jobs c hy,f_answer] at h5
    exact⟨he,σ',p',U',h1,f1,f2,h3,h5,by rw[h7];exact hk,by omega⟩
theorem st_lens {w w':World}{pb xb:Nat}{c:Cfg}{n:Nat}(h:StAt w w' pb xb c {fS4 with acked:=1} n):∃ta tc la lc,w'.cell? ⟨pb,10,none⟩=some (.slice ta 1 tc)/\w'.cell? ⟨pb,11,none⟩=some (.slice la 1 lc):=by
  obtain⟨σ,p,U,hp,hb,hU,hG,hs,hk,hbd⟩:=h
  obtain⟨e1,e2⟩:=f_end hG hs
  obtain⟨X,R,V,v,hP,hL,hap,hU⟩:=hp.ex
  have c10:=hL.bx.c 10 v.tv
  have c11:=hL.bx.c 11 v.lv
  obtain⟨la,lc,hl⟩:=hL.lr.form
  rw[e1] at hl
  rw[hl] at c11
  rcases hL.tr.1 with ⟨h0,_⟩|⟨b,off,cap,ht,_⟩
  · rw[h0] at e2;cases e2
  · rw[e2] at ht
    rw[ht] at c10
    exact⟨_,_,_,_,c10,c11⟩
theorem st_first {w w0 w1:World}{c:Cfg}{xb:Nat}(hX:ProgIs w1 (λk=>w0.heap.size<=k/\k<w1.heap.size) xb c Sg.zero 0 g0)(hbw:Below w.heap.size w w1)(h01:w0.heap.size<=w1.heap.size)(h0:w.heap.size<=w0.heap.size)(hc:c.Ok):
    Calls prog 21 #[.pointer (some ⟨w1.heap.size,0,none⟩),.int .i64 1000000,.int .i64 0,.slice (some ⟨w1.heap.size+1,0,none⟩) 1 1] ((w1.alloc (.cells (plC xb c (.slice none 0 0) (.slice none 0 0) (.slice none 0 0) (.slice none 0 0) 0 0) 58)).alloc (.cells #[.string ⟨#[102,105,114,115,116]⟩,.string ⟨#[]⟩,.string ⟨#[49]⟩] 49)) λe w'=>e=.returned (.bool true)/\StAt w w' w1.heap.size xb c fS1 2:=by
  have hp:=pp_new hX h01
  have hp2:=hp.later (below_new _ (.cells #[.string ⟨#[102,105,114,115,116]⟩,.string ⟨#[]⟩,.string ⟨#[49]⟩] 49))
  have hsz:(w1.alloc (.cells (plC xb c (.slice none 0 0) (.slice none 0 0) (.slice none 0 0) (.slice none 0 0) 0 0) 58)).heap.size=w1.heap.size+1:=by simp
  have hb2:Below w.heap.size w ((w1.alloc (.cells (plC xb c (.slice none 0 0) (.slice none 0 0) (.slice none 0 0) (.slice none 0 0) 0 0) 58)).alloc (.cells #[.string ⟨#[102,105,114,115,116]⟩,.string ⟨#[]⟩,.string ⟨#[49]⟩] 49)):=(hbw.alloc hbw.size _).alloc (by rw[hsz];exact Nat.le_trans hbw.size (Nat.le_succ _)) _
  have hrow:=ed_new1 w1 (.cells (plC xb c (.slice none 0 0) (.slice none 0 0) (.slice none 0 0) (.slice none 0 0) 0 0) 58) (.string ⟨#[102,105,114,115,116]⟩) (.string ⟨#[]⟩) (.string ⟨#[49]⟩) 49
  refine st_submit hp2 hb2 (λk hk=>Nat.le_trans h0 hk.1) hc (.inr ⟨w1.heap.size+1,0,1,rfl,by simp,λi hi=>?_,λi hi=>?_,λi hi=>?_⟩) λhk=>Nat.lt_irrefl _ hk.2
  · obtain rfl:i=0:=by have:i<1:=hi;omega
    exact hrow 0 _ rfl
  · obtain rfl:i=0:=by have:i<1:=hi;omega
    exact hrow 1 _ rfl
  · obtain rfl:i=0:=by have:i<1:=hi;omega
    exact hrow 2 _ rfl
def PlayerGives (w w':World)(e:Ending)(c:Cfg):Prop:=∃pb xb,e=.returned (.pointer (some ⟨pb,0,none⟩))/\StAt w w' pb xb c {fS4 with acked:=1} 5
theorem law_player (c:Cfg)(w:World)(hc:c.Ok):
    Calls prog 16 #[.agg #[.int .i64 c.lanes,.int .i64 c.age,.int .i64 c.batch,.int .i64 c.window,.int .i64 c.retries,.int .i64 c.deadline,.int .i64 c.queue]] w λe w'=>PlayerGives w w' e c:=by
  have hb0:=below_new w (.cells #[.int .i64 c.lanes,.int .i64 c.age,.int .i64 c.batch,.int .i64 c.window,.int .i64 c.retries,.int .i64 c.deadline,.int .i64 c.queue] 23)
  have hN:=pNew0 c (w.alloc (.cells #[.int .i64 c.lanes,.int .i64 c.age,.int .i64 c.batch,.int .i64 c.window,.int .i64 c.retries,.int .i64 c.deadline,.int .i64 c.queue] 23)) hc
  have hB:=Bx.new w #[.int .i64 c.lanes,.int .i64 c.age,.int .i64 c.batch,.int .i64 c.window,.int .i64 c.retries,.int .i64 c.deadline,.int .i64 c.queue] 23
  have HC:Hid c.Ok:=hc
  clear hc
  go_enter func16,ntmps16
  go_wp2_with fail
  go_fit hN
  rintro e w1 ⟨xb,rfl,hX,hb1⟩
  have hB1:Bx w1 w.heap.size 23 #[.int .i64 c.lanes,.int .i64 c.age,.int .i64 c.batch,.int .i64 c.window,.int .i64 c.retries,.int .i64 c.deadline,.int .i64 c.queue]:=(hb1.block _ hB.lt).trans hB
  have x0:=hB1.c 0 (.int .i64 c.lanes)
  have x1:=hB1.c 1 (.int .i64 c.age)
  have x2:=hB1.c 2 (.int .i64 c.batch)
  have x3:=hB1.c 3 (.int .i64 c.window)
  have x4:=hB1.c 4 (.int .i64 c.retries)
  have x5:=hB1.c 5 (.int .i64 c.deadline)
  have x6:=hB1.c 6 (.int .i64 c.queue)
  have hbw:Below w.heap.size w w1:=hb0.trans (hb1.mono hb0.size)
  have hS:=st_first hX hbw hb1.size hb0.size HC.out
  unfold plC at hS
  clear hB hB1 hb0 hb1 hN hX hbw
  go_wp2_with fail
  go_fit hS
  rintro e w2 ⟨rfl,h2⟩
  have hC2:=st_pump h2 HC.out (s':=fS2 c) (by rw[f_pump1 c HC.out];rfl) (by decide)
  clear hS h2 x0 x1 x2 x3 x4 x5 x6
  go_wp2_with fail
  go_fit hC2
  rintro e w3 ⟨rfl,h3⟩
  have hC3:=st_ends h3 HC.out (by decide)
  clear hC2 h3
  go_wp2_with fail
  go_fit hC3
  rintro e w4 ⟨rfl,h4⟩
  have hC4:=st_pump h4 HC.out (s':={fS4 with acked:=1}) (by rw[f_pump2 c];rfl) (by decide)
  clear hC3 h4
  go_wp2_with fail
  go_fit hC4
  rintro e w5 ⟨rfl,h5⟩
  have HF:Hid (StAt w w5 w1.heap.size xb c {fS4 with acked:=1} 5):=h5
  obtain⟨ta,tc,la,lc,d10,d11⟩:=st_lens h5
  clear hC4 h5
  go_wp2_with fail
  go_ret
  exact⟨_,_,rfl,HF.out⟩
structure Sa where
  kind:Int
  id:Int
  lane:Int
  pass:Bool
  es:List Ed
  ea:Option Addr
  ec:Nat
def cSa (a:Sa):List Value:=[.int .i64 a.kind,.int .i64 a.id,.int .i64 a.lane,.bool a.pass,.slice a.ea a.es.length a.ec]
structure Sa.Ok (w:World)(a:Sa):Prop where
  ed:EditsAt w (.slice a.ea a.es.length a.ec) a.es
  sm:a.es.length<8796093022208
  rg:-9223372036854775808<=a.id/\a.id<9223372036854775808
  ln:-9223372036854775808<=a.lane/\a.lane<9223372036854775808
def Script (w:World)(v:Value)(xs:List Sa):Prop:=∃a cap,v=.slice a xs.length cap/\(xs=[]\/∃b off,a=some ⟨b,off,none⟩/\b<w.heap.size/\∀i (h:i<xs.length) j u,(cSa xs[i])[j]? =some u->w.cell? ⟨b,off+i*5+j,none⟩=some u)
def EvAt (w w':World)(pb xb:Nat)(c:Cfg)(n:Nat):Prop:=∃σ p U,Pp w' U pb xb c σ p/\Below w.heap.size w w'/\(∀k,U k->w.heap.size<=k)/\Gd c σ p/\Kp p/\bud c σ<=n
theorem StAt.ev {w w':World}{pb xb:Nat}{c:Cfg}{s:Ts}{n:Nat}(h:StAt w w' pb xb c s n):EvAt w w' pb xb c n:=by
  obtain⟨σ,p,U,h1,h2,h3,h4,_,h6,h7⟩:=h
  exact⟨σ,p,U,h1,h2,h3,h4,h6,h7⟩
theorem EvAt.below {w w':World}{pb xb:Nat}{c:Cfg}{n:Nat}(h:EvAt w w' pb xb c n):Below w.heap.size w w':=by
  obtain⟨σ,p,U,h1,h2,_⟩:=h
  exact h2
theorem EvAt.from {w0 w w':World}{pb xb:Nat}{c:Cfg}{n:Nat}(hb:Below w0.heap.size w0 w)(h:EvAt w w' pb xb c n):EvAt w0 w' pb xb c n:=by
  obtain⟨σ,p,U,h1,h2,h3,h4,h6,h7⟩:=h
  exact⟨σ,p,U,h1,hb.trans (h2.mono hb.size),λk hk=>Nat.le_trans hb.size (h3 k hk),h4,h6,h7⟩
theorem ev_act {w W:World}{pb xb:Nat}{c:Cfg}{n:Nat}(h:EvAt w W pb xb c n)(hc:c.Ok)(hn:n<1000000)(a:Sa)(ha:a.Ok w):
    Calls prog 18 #[.pointer (some ⟨pb,0,none⟩),.agg #[.int .i64 a.kind,.int .i64 a.id,.int .i64 a.lane,.bool a.pass,.slice a.ea a.es.length a.ec]] W λe w'=>e=.returned (.bool true)/\EvAt w w' pb xb c (n+2):=by
  obtain⟨σ,p,U,h1,h2,h3,h4,h6,h7⟩:=h
  refine(law_act a.kind a.id a.lane a.pass a.es a.ea a.ec h1 h4 hc (by omega) h6 ha.rg ha.ln (ha.ed.later h2) ha.sm).mono ?_
  rintro e w' ⟨he,σ',p',U',g1,g2,g3,g4⟩
  obtain⟨f1,f2⟩:=far h2 h3 g2
  exact⟨he,σ',p',U',g1,f1,f2,g3.1,g3.2,by omega⟩
theorem ev_pump {w W:World}{pb xb:Nat}{c:Cfg}{n:Nat}(h:EvAt w W pb xb c n)(hc:c.Ok)(hn:n<1000000):
    Calls prog 19 #[.pointer (some ⟨pb,0,none⟩)] W λe w'=>e=.returned (.bool true)/\EvAt w w' pb xb c (n+2):=by
  obtain⟨σ,p,U,h1,h2,h3,h4,h6,h7⟩:=h
  refine(acts_pump h1 h4 hc (by omega) h6).mono ?_
  rintro e w' ⟨he,σ',p',U',g1,g2,g3,g4⟩
  obtain⟨f1,f2⟩:=far h2 h3 g2
  exact⟨he,σ',p',U',g1,f1,f2,g3.1,g3.2,by omega⟩
theorem ev_looks {w W:World}{pb xb:Nat}{c:Cfg}{n:Nat}(h:EvAt w W pb xb c n)(hc:c.Ok)(hn:n<1000000):
    Calls prog 20 #[.pointer (some ⟨pb,0,none⟩)] W λe w'=>e=.returned (.bool true)/\EvAt w w' pb xb c n:=by
  obtain⟨σ,p,U,h1,h2,h3,h4,h6,h7⟩:=h
  have hrs:σ.rs.length<1048576:=by unfold bud at h7;omega
  refine(pl_looks U pb xb c σ p W h1 h4.g hc hrs h4.dr).mono ?_
  rintro e w' ⟨he,hb,hp⟩
  exact⟨he,σ,p,U,hp,h2.trans (hb.mono h2.size),h3,h4,h6,h7⟩
theorem law_evidence (n0 n1 n2 n3 n4 n5 n6:Int)(sv:Value)(xs:List Sa)(w:World)(h0:-9223372036854775808<=n0/\n0<9223372036854775808)(h1:-9223372036854775808<=n1/\n1<9223372036854775808)(h2:-9223372036854775808<=n2/\n2<9223372036854775808)(h3:-9223372036854775808<=n3/\n3<9223372036854775808)(h4:-9223372036854775808<=n4/\n4<9223372036854775808)(h5:-9223372036854775808<=n5/\n5<9223372036854775808)(h6:-9223372036854775808<=n6/\n6<9223372036854775808)(hsv:Script w sv xs)(hok:∀a∈xs,a.Ok w)(hlen:xs.length<200000):
    Calls prog 6 #[.agg #[.int .i64 n0,.int .i64 n1,.int .i64 n2,.int .i64 n3,.int .i64 n4,.int .i64 n5,.int .i64 n6],sv] w λe w'=>e=.returned (.bool true)/\Below w.heap.size w w':=by
  obtain⟨sa,sc,rfl,hS⟩:=hsv
  have hb0:=below_new w (.cells #[.int .i64 n0,.int .i64 n1,.int .i64 n2,.int .i64 n3,.int .i64 n4,.int .i64 n5,.int .i64 n6] 23)
  have hT:=law_settings n0 n1 n2 n3 n4 n5 n6 (w.alloc (.cells #[.int .i64 n0,.int .i64 n1,.int .i64 n2,.int .i64 n3,.int .i64 n4,.int .i64 n5,.int .i64 n6] 23)) h0 h1 h2 h3 h4 h5 h6
  clear h0 h1 h2 h3 h4 h5 h6
  unfold SettingsGive at hT
  go_enter func6,ntmps6
  go_wp2_with fail
  go_fit hT
  rintro e w1 ⟨⟨c,hc,rfl⟩,hb1⟩
  have HB1:Hid (Below w.heap.size w w1):=hb0.trans (hb1.mono hb0.size)
  have hP:=law_player c w1 hc
  have HC:Hid c.Ok:=hc
  clear hT hb0 hb1 hc
  unfold PlayerGives at hP
  have eC:(c.cells.toArray:Array Value)=#[.int .i64 c.lanes,.int .i64 c.age,.int .i64 c.batch,.int .i64 c.window,.int .i64 c.retries,.int .i64 c.deadline,.int .i64 c.queue]:=rfl
  rw[eC]
  clear eC
  go_wp2_with fail
  go_fit hP
  rintro e w2 ⟨pb,xb,rfl,hE⟩
  have HE2:Hid (EvAt w w2 pb xb c 5):=EvAt.from HB1.out hE.ev
  clear hP hE HB1
  go_wp2_with fail
  go_loopw [6,7] (λiv _ wr=>∃i:Nat,i<=xs.length/\iv=.int .i64 i/\Hid (EvAt w wr pb xb c (5+2*i))) (λi _ _=>xs.length-(intOf i).toNat)
  case atStart=>exact⟨0,Nat.zero_le _,rfl,HE2.out⟩
  case round=>
    obtain⟨i,hin,rfl,HE⟩:=hrel
    by_cases hlt:i<xs.length
    · have hAo:=hok xs[i] (List.getElem_mem hlt)
      rcases hS with rfl|⟨b,off,rfl,hbl,hcl⟩
      · simp at hlt
      have kk:∀j (u:Value),(cSa xs[i])[j]? =some u->wr.cell? ⟨b,off+i*5+j,none⟩=some u:=λj u hu=>jcell_after HE.out.below (hcl i hlt j u hu)
      have d0:wr.cell? ⟨b,off+i*5,none⟩=some (.int .i64 xs[i].kind):=kk 0 _ rfl
      have d1:=kk 1 (.int .i64 xs[i].id) rfl
      have d2:=kk 2 (.int .i64 xs[i].lane) rfl
      have d3:=kk 3 (.bool xs[i].pass) rfl
      have d4:=kk 4 (.slice xs[i].ea xs[i].es.length xs[i].ec) rfl
      have hA:=ev_act HE.out HC.out (by omega) xs[i] hAo
      clear kk hAo hcl
      generalize xs[i].kind=z0 at *
      generalize xs[i].id=z1 at *
      generalize xs[i].lane=z2 at *
      generalize xs[i].pass=z3 at *
      generalize xs[i].es.length=z4 at *
      generalize xs[i].ea=z5 at *
      generalize xs[i].ec=z6 at *
      go_wp2_with fail
      go_fit hA
      rintro e w3 ⟨rfl,h3⟩
      have H3:Hid (EvAt w w3 pb xb c (5+2*(i+1))):=h3
      clear hA h3 d0 d1 d2 d3 d4
      go_wp2_with fail
      go_roundw
      case rel=>exact⟨i+1,hlt,by go_num,H3.out⟩
      case measure=>simp[intOf];omega
    · have hP:=ev_pump HE.out HC.out (by omega)
      go_wp2_with fail
      go_fit hP
      rintro e w3 ⟨rfl,h3⟩
      have hL:=ev_looks h3 HC.out (by omega)
      clear hP h3
      go_wp2_with fail
      go_fit hL
      rintro e w4 ⟨rfl,h4⟩
      have H4:Hid (Below w.heap.size w w4):=h4.below
      clear hL h4
      go_wp2_with fail
      go_ret
      exact⟨rfl,H4.out⟩
section
open Go.ChangeShapes Go.WideShapes Go.ChangeAt
theorem tz_own:ownKnob prog.godebug=none:=by kernel_rfl
theorem tz_laidOut:laidOutB prog=true:=by kernel_rfl
theorem tz_str:prog.cellsOf 9=1:=by kernel_rfl
theorem tz_int:prog.cellsOf 3=1:=by kernel_rfl
theorem tz_bool:prog.cellsOf 4=1:=by kernel_rfl
theorem tz_eds:prog.cellsOf 27=1:=by kernel_rfl
theorem tz_edit:prog.cellsOf 49=3:=by kernel_rfl
theorem tz_act:prog.cellsOf 29=5:=by kernel_rfl
theorem bulk_one {H:Type}(d:DataW H):1<=Rows.uptoBulk d:=by
  cases d with
  |lit l=>cases l<;>simp[Rows.uptoBulk]
  |nil=>simp[Rows.uptoBulk]
  |ptr d=>simp[Rows.uptoBulk]
  |slice elems spare=>simp[Rows.uptoBulk]
  |agg parts=>simp[Rows.uptoBulk]
  |iface t d=>simp[Rows.uptoBulk]
  |map entries=>simp[Rows.uptoBulk]
  |held h=>simp[Rows.uptoBulk]
theorem bulk_part {H:Type}{d:DataW H}{l:List (DataW H)}(h:d∈l):Rows.uptoBulk d<=Rows.uptoBulkAll l:=by
  induction l with
  |nil=>cases h
  |cons x r ih=>
    simp only[Rows.uptoBulkAll]
    cases List.mem_cons.1 h with
    |inl e=>subst e;omega
    |inr e=>have:=ih e;omega
theorem bulk_each {H:Type}{k:Nat}:∀{l:List (DataW H)},(∀d∈l,k<=Rows.uptoBulk d)->l.length*k<=Rows.uptoBulkAll l
  |[],_=>by simp[Rows.uptoBulkAll]
  |x::r,h=>by
    have h1:=h x List.mem_cons_self
    have h2:=bulk_each (l:=r) λd hd=>h d (List.mem_cons_of_mem _ hd)
    simp only[Rows.uptoBulkAll,List.length_cons]
    rw[Nat.add_mul,Nat.one_mul]
    omega
theorem bulk_len {H:Type}(l:List (DataW H)):l.length<=Rows.uptoBulkAll l:=by
  have:=bulk_each (k:=1) (l:=l) λd _=>bulk_one d
  omega
theorem len3 {α:Type}{l:List α}(h:l.length=3):∃a b c,l=[a,b,c]:=by
  match l,h with
  |[a,b,c],_=>exact⟨a,b,c,rfl⟩
theorem len5 {α:Type}{l:List α}(h:l.length=5):∃a b c d e,l=[a,b,c,d,e]:=by
  match l,h with
  |[a,b,c,d,e],_=>exact⟨a,b,c,d,e,rfl⟩
theorem len7 {α:Type}{l:List α}(h:l.length=7):∃a b c d e f g,l=[a,b,c,d,e,f,g]:=by
  match l,h with
  |[a,b,c,d,e,f,g],_=>exact⟨a,b,c,d,e,f,g,rfl⟩
section
variable {H : Type} {enc : TypeId × Value → H} {W : World}
theorem one_str {n:Nat}{v:Value}{x:Option (DataW H×List MemPlace)}(h:DataW.trod enc prog W 0 (λ_=>true) true n 9 [v]=x)(hx:x.isSome=true):∃s:ByteArray,v=.string s/\s.size<=maxLen:=by
  obtain⟨y,rfl⟩:=Option.isSome_iff_exists.1 hx
  obtain⟨s,h1,_,h2⟩:=DataW.trod_string underlying9 h
  exact⟨s,by simpa using h1,h2⟩
theorem one_int {n:Nat}{v:Value}{x:Option (DataW H×List MemPlace)}(h:DataW.trod enc prog W 0 (λ_=>true) true n 3 [v]=x)(hx:x.isSome=true):∃k:Int,v=.int .i64 k/\-9223372036854775808<=k/\k<9223372036854775808:=by
  obtain⟨y,rfl⟩:=Option.isSome_iff_exists.1 hx
  obtain⟨k,h1,_,h3⟩:=DataW.trod_int underlying3 h
  refine⟨k,by simpa using h1,?_⟩
  have hb:IntKind.i64.min=-9223372036854775808/\IntKind.i64.max=9223372036854775807:=by decide
  simp only[Lit.wf,Bool.and_eq_true,decide_eq_true_eq,hb.1,hb.2] at h3
  omega
theorem one_bool {n:Nat}{v:Value}{x:Option (DataW H×List MemPlace)}(h:DataW.trod enc prog W 0 (λ_=>true) true n 4 [v]=x)(hx:x.isSome=true):∃b:Bool,v=.bool b:=by
  obtain⟨y,rfl⟩:=Option.isSome_iff_exists.1 hx
  obtain⟨b,h1,_⟩:=DataW.trod_bool underlying4 h
  exact⟨b,by simpa using h1⟩
theorem three_strs {n:Nat}{cs:List Value}{x:DataW H×List MemPlace}(hl:cs.length=3)(h:DataW.trod enc prog W 0 (λ_=>true) true n 49 cs=some x):∃s t u:ByteArray,cs=[.string s,.string t,.string u]:=by
  obtain⟨xs,k,hk,hxy,_,hxl,hf⟩:=DataW.trod_struct underlying49 h
  obtain⟨y0,y1,y2,rfl⟩:=len3 (l:=xs) (by simpa using hxl)
  obtain⟨v0,v1,v2,rfl⟩:=len3 hl
  have g0:=hf 0 _ rfl
  have g1:=hf 1 _ rfl
  have g2:=hf 2 _ rfl
  simp[tz_str] at g0 g1 g2
  obtain⟨s,rfl,_⟩:=one_str g0 rfl
  obtain⟨t,rfl,_⟩:=one_str g1 rfl
  obtain⟨u,rfl,_⟩:=one_str g2 rfl
  exact⟨s,t,u,rfl⟩
theorem cfg_of {n:Nat}{cs:List Value}{x:DataW H×List MemPlace}(hl:cs.length=7)(h:DataW.trod enc prog W 0 (λ_=>true) true n 23 cs=some x):∃n0 n1 n2 n3 n4 n5 n6:Int,cs=[.int .i64 n0,.int .i64 n1,.int .i64 n2,.int .i64 n3,.int .i64 n4,.int .i64 n5,.int .i64 n6]/\(-9223372036854775808<=n0/\n0<9223372036854775808)/\(-9223372036854775808<=n1/\n1<9223372036854775808)/\(-9223372036854775808<=n2/\n2<9223372036854775808)/\(-9223372036854775808<=n3/\n3<9223372036854775808)/\(-9223372036854775808<=n4/\n4<9223372036854775808)/\(-9223372036854775808<=n5/\n5<9223372036854775808)/\(-9223372036854775808<=n6/\n6<9223372036854775808):=by
  obtain⟨xs,k,hk,hxy,_,hxl,hf⟩:=DataW.trod_struct underlying23 h
  obtain⟨y0,y1,y2,y3,y4,y5,y6,rfl⟩:=len7 (l:=xs) (by simpa using hxl)
  obtain⟨v0,v1,v2,v3,v4,v5,v6,rfl⟩:=len7 hl
  have g0:=hf 0 _ rfl
  have g1:=hf 1 _ rfl
  have g2:=hf 2 _ rfl
  have g3:=hf 3 _ rfl
  have g4:=hf 4 _ rfl
  have g5:=hf 5 _ rfl
  have g6:=hf 6 _ rfl
  simp[tz_int] at g0 g1 g2 g3 g4 g5 g6
  obtain⟨n0,rfl,hr0⟩:=one_int g0 rfl
  obtain⟨n1,rfl,hr1⟩:=one_int g1 rfl
  obtain⟨n2,rfl,hr2⟩:=one_int g2 rfl
  obtain⟨n3,rfl,hr3⟩:=one_int g3 rfl
  obtain⟨n4,rfl,hr4⟩:=one_int g4 rfl
  obtain⟨n5,rfl,hr5⟩:=one_int g5 rfl
  obtain⟨n6,rfl,hr6⟩:=one_int g6 rfl
  exact⟨n0,n1,n2,n3,n4,n5,n6,rfl,hr0,hr1,hr2,hr3,hr4,hr5,hr6⟩
theorem edits_of {fuel:Nat}{v:Value}{x:DataW H×List MemPlace}(hf:DataW.trod enc prog W 0 (λ_=>true) true fuel 27 [v]=some x):
    ∃(l:List Ed) (a:Option Addr) (cap:Nat),v=.slice a l.length cap/\EditsAt W v l/\l.length<=Rows.uptoBulk x.1:=by
  rcases Deep.open_slice underlying27 hf with ⟨hcs,hx⟩|⟨a,len,cap,m,n,D,Pl,hcs,_,hl,hm,hmm,hx,hi⟩
  · obtain rfl:v=.slice none 0 0:=by simpa using hcs
    exact⟨[],none,0,rfl,.inl ⟨rfl,_,_,rfl⟩,Nat.zero_le _⟩
  · obtain rfl:v=.slice (some a) len cap:=by simpa using hcs
    simp only[if_true] at hmm
    rw[tz_edit] at hi
    have each:∀i,i<len->∃q:Ed,W.cell? (a.add (i*3))=some (.string q.1)/\W.cell? ((a.add (i*3)).add 1)=some (.string q.2.1)/\W.cell? ((a.add (i*3)).add 2)=some (.string q.2.2):=λi hil=>by
      obtain⟨cs,h1,h2⟩:=hi i (by omega)
      obtain⟨_,hlen,hc⟩:=World.cells?_some h1
      obtain⟨s,t,u,rfl⟩:=three_strs hlen h2
      have e0:=hc 0 (by omega)
      have e1:=hc 1 (by omega)
      have e2:=hc 2 (by omega)
      exact⟨(s,t,u),by simpa[Addr.add] using e0,by simpa using e1,by simpa using e2⟩
    obtain⟨q,hq⟩:=Deep.choose_lt (α:=Ed) each
    have hL:((List.range len).map q).length=len:=by simp
    have hg:∀i (h:i<((List.range len).map q).length),((List.range len).map q)[i]=q i:=λi h=>by simp
    refine⟨(List.range len).map q,some a,cap,by rw[hL],?_,?_⟩
    · by_cases h0:len=0
      · subst h0
        exact .inl ⟨rfl,_,_,rfl⟩
      · obtain⟨b,off,spot⟩:=a
        have hspot:spot=none:=by simpa[Addr.add] using World.cell?_spot (hq 0 (by omega)).1
        subst hspot
        have hbW:b<W.heap.size:=cell_lt (o:=off) (by simpa[Addr.add] using (hq 0 (by omega)).1)
        refine .inr ⟨b,off,cap,by rw[hL],hbW,λi h=>?_,λi h=>?_,λi h=>?_⟩
        · have:=(hq i (by rw[hL] at h;exact h)).1
          rw[hg i h,<-this,add_plain]
        · have:=(hq i (by rw[hL] at h;exact h)).2.1
          rw[hg i h,<-this,add_plain,add_plain]
        · have:=(hq i (by rw[hL] at h;exact h)).2.2
          rw[hg i h,<-this,add_plain,add_plain]
    · rw[hx,hL]
      have:=bulk_len ((List.range len).map D)
      simp only[Rows.uptoBulk]
      simp at this
      omega
theorem act_of {n:Nat}{cs:List Value}{x:DataW H×List MemPlace}(hl:cs.length=5)(h:DataW.trod enc prog W 0 (λ_=>true) true n 29 cs=some x):∃a:Sa,cs=cSa a/\EditsAt W (.slice a.ea a.es.length a.ec) a.es/\a.es.length<=Rows.uptoBulk x.1/\6<=Rows.uptoBulk x.1/\(-9223372036854775808<=a.id/\a.id<9223372036854775808)/\(-9223372036854775808<=a.lane/\a.lane<9223372036854775808):=by
  obtain⟨xs,k,hk,hxy,_,hxl,hf⟩:=DataW.trod_struct underlying29 h
  obtain⟨y0,y1,y2,y3,y4,rfl⟩:=len5 (l:=xs) (by simpa using hxl)
  obtain⟨v0,v1,v2,v3,v4,rfl⟩:=len5 hl
  have g0:=hf 0 _ rfl
  have g1:=hf 1 _ rfl
  have g2:=hf 2 _ rfl
  have g3:=hf 3 _ rfl
  have g4:=hf 4 _ rfl
  simp[tz_int,tz_bool,tz_eds] at g0 g1 g2 g3 g4
  obtain⟨n0,rfl,hr0⟩:=one_int g0 rfl
  obtain⟨n1,rfl,hr1⟩:=one_int g1 rfl
  obtain⟨n2,rfl,hr2⟩:=one_int g2 rfl
  obtain⟨b3,rfl⟩:=one_bool g3 rfl
  obtain⟨es,ea,ec,rfl,hE,hle⟩:=edits_of g4
  have e:Rows.uptoBulk x.1=Rows.uptoBulk y0.1+(Rows.uptoBulk y1.1+(Rows.uptoBulk y2.1+(Rows.uptoBulk y3.1+Rows.uptoBulk y4.1)))+1:=by
    rw[hxy]
    simp[Rows.uptoBulk,Rows.uptoBulkAll]
  have:=bulk_one y0.1
  have:=bulk_one y1.1
  have:=bulk_one y2.1
  have:=bulk_one y3.1
  have:=bulk_one y4.1
  exact⟨⟨n0,n1,n2,b3,es,ea,ec⟩,rfl,hE,by show es.length<=_;omega,by omega,hr1,hr2⟩
theorem acts_of {fuel:Nat}{v:Value}{x:DataW H×List MemPlace}(hf:DataW.trod enc prog W 0 (λ_=>true) true fuel 25 [v]=some x):
    ∃l:List Sa,Script W v l/\(∀a∈l,EditsAt W (.slice a.ea a.es.length a.ec) a.es/\a.es.length<=Rows.uptoBulk x.1/\(-9223372036854775808<=a.id/\a.id<9223372036854775808)/\(-9223372036854775808<=a.lane/\a.lane<9223372036854775808))/\l.length*6<=Rows.uptoBulk x.1:=by
  rcases Deep.open_slice underlying25 hf with ⟨hcs,hx⟩|⟨a,len,cap,m,n,D,Pl,hcs,_,hl,hm,hmm,hx,hi⟩
  · obtain rfl:v=.slice none 0 0:=by simpa using hcs
    exact⟨[],⟨none,0,rfl,.inl rfl⟩,λa h=>by simp at h,by simp⟩
  · obtain rfl:v=.slice (some a) len cap:=by simpa using hcs
    simp only[if_true] at hmm
    rw[tz_act] at hi
    have each:∀i,i<len->∃q:Sa,(∀j u,(cSa q)[j]? =some u->W.cell? ((a.add (i*5)).add j)=some u)/\EditsAt W (.slice q.ea q.es.length q.ec) q.es/\q.es.length<=Rows.uptoBulk (D i)/\6<=Rows.uptoBulk (D i)/\(-9223372036854775808<=q.id/\q.id<9223372036854775808)/\(-9223372036854775808<=q.lane/\q.lane<9223372036854775808):=λi hil=>by
      obtain⟨cs,h1,h2⟩:=hi i (by omega)
      obtain⟨_,hlen,hc⟩:=World.cells?_some h1
      obtain⟨q,rfl,hE,h3,h4,h5⟩:=act_of hlen h2
      refine⟨q,λj u hu=>?_,hE,h3,h4,h5⟩
      have hj:j<5:=by
        have:=(List.getElem?_eq_some_iff.1 hu).1
        simpa[cSa] using this
      have:=hc j hj
      rw[this]
      exact hu
    have inh:Inhabited Sa:=⟨⟨0,0,0,false,[],none,0⟩⟩
    obtain⟨q,hq⟩:=Deep.choose_lt (α:=Sa) each
    have hL:((List.range len).map q).length=len:=by simp
    have hg:∀i (h:i<((List.range len).map q).length),((List.range len).map q)[i]=q i:=λi h=>by simp
    have hB:((List.range len).map D).length*6<=Rows.uptoBulkAll ((List.range len).map D):=bulk_each λd hd=>by
      obtain⟨i,hi',rfl⟩:=List.mem_map.1 hd
      exact(hq i (List.mem_range.1 hi')).2.2.2.1
    have hx1:Rows.uptoBulkAll ((List.range len).map D)<=Rows.uptoBulk x.1:=by
      rw[hx];simp only[Rows.uptoBulk];omega
    refine⟨(List.range len).map q,⟨some a,cap,by rw[hL],?_⟩,λc hc=>?_,?_⟩
    · by_cases h0:len=0
      · subst h0
        exact .inl rfl
      · obtain⟨b,off,spot⟩:=a
        have c0:=(hq 0 (by omega)).1 0 _ rfl
        have hspot:spot=none:=by simpa[Addr.add] using World.cell?_spot c0
        subst hspot
        have hbW:b<W.heap.size:=cell_lt (o:=off) (by simpa[Addr.add] using c0)
        refine .inr ⟨b,off,rfl,hbW,λi h j u hu=>?_⟩
        rw[hg i h] at hu
        have:=(hq i (by rw[hL] at h;exact h)).1 j u hu
        rw[<-this,add_plain,add_plain]
    · obtain⟨i,hi',rfl⟩:=List.mem_map.1 hc
      have h1:=hq i (List.mem_range.1 hi')
      have h2:Rows.uptoBulk (D i)<=Rows.uptoBulkAll ((List.range len).map D):=bulk_part (List.mem_map_of_mem hi')
      exact⟨h1.2.1,by omega,h1.2.2.2.2⟩
    · rw[hL]
      simp at hB
      omega
end
end
end Go.Proofs.YtgamgomepdfgdaaGreat
