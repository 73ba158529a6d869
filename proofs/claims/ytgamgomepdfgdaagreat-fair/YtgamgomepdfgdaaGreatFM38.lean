import Derived.Test.YtgamgomepdfgdaaGreatRows
import Derived.ProofKit
import Derived.SizedLaws
import Derived.Deep.Slices
import Derived.OpenShut
import Derived.JoinedCond
import Derived.Test.YtgamgomepdfgdaaGreatFM37
set_option maxRecDepth 100000
set_option maxHeartbeats 8000000
namespace Go.Proofs.YtgamgomepdfgdaaGreat
open Go.RowKit Go.Proofs.Tryz
def fEd:Ed:=(⟨#[102,105,114,115,116]⟩,⟨#[]⟩,⟨#[49]⟩)
def fE:List Ed:=[fEd]
theorem fE_ok:EditsOK fE:=⟨by simp[fE],by simp[fE],λx hx=>by rw[List.mem_singleton.1 hx];simp only[okEd,okEdit,okFill,okText,Lib.toList_data,fEd];decide,by unfold Apart;simp[fE]⟩
def Sg.zero:Sg:=⟨[],true,[],false,0⟩
def Pe.zero:Pe:=⟨[],[],[],[],0,0⟩
theorem Sg.zero_ok (c:Cfg)(g:ByteArray->ByteArray):Sg.zero.Ok c g:=⟨.nil,torn_nil,λ_=>rfl,λh=>(by cases h)⟩
theorem zero_ts (c:Cfg):Sg.zero.ts c=Ts.start g0:=rfl
theorem zero_gd (c:Cfg):Gd c Sg.zero Pe.zero:=by
  refine⟨⟨Sg.zero_ok c g0,rfl,rfl,?_,?_,rfl,λk hk=>(by cases hk),Nat.zero_le _,λe he=>(by cases he)⟩,rfl,λx hx=>(by cases hx)⟩
  · rw[zero_ts]
    exact⟨List.nodup_nil,List.Perm.refl _,λx hx=>(by cases hx),λx hx=>(by cases hx),trivial,rfl,rfl,λe he=>(by cases he),List.nodup_nil⟩
  · rw[zero_ts]
    exact⟨rfl,rfl,λk hk=>(by cases hk),rfl,⟨_,Lists.nil,rfl⟩⟩
def fS1:Ts:=⟨[1000000],[⟨1000000,0,0,0,fE⟩],[],0,g0,[],[],0,0⟩
def fSm (j:Option Jb)(b:Nat):Sm:=⟨[(1000000,fE)],0,b,j⟩
def fS2 (c:Cfg):Ts:=⟨[1000000],[],[],0,g0,[],[fSm (some ⟨1,0+c.deadline,edited g0 fE⟩) 0],1,0⟩
def fS3:Ts:=⟨[1000000],[],[],0,g0,[],[fSm none 1],1,0⟩
def fS4:Ts:=⟨[1000000],[],[(1000000,1)],0,edited g0 fE,[(1,[1000000])],[],1,0⟩
theorem f_on:appOn g0 fE=true:=by
  rw[appOn_iff]
  intro e he
  rw[List.mem_singleton.1 he];rfl
theorem f_makes:makes g0 [(1000000,fE)]=(edited g0 fE,1):=by
  unfold makes
  rw[if_pos f_on]
  rfl
theorem f_pump1 (c:Cfg)(hc:c.Ok):fS1.pump c=fS2 c:=by
  obtain⟨b,hb⟩:∃b,c.batch=b+1:=⟨c.batch-1,by have:=hc.2.2.1.1;omega⟩
  obtain⟨v,hv⟩:∃v,c.window=v+1:=⟨c.window-1,by have:=hc.2.2.2.1.1;omega⟩
  have hr:(fS1.ranked c)=[⟨1000000,0,0,0,fE⟩]:=by
    unfold Ts.ranked rkG laneC
    simp[fS1,List.range_succ]
  have h1:fS1.step c=some ⟨[1000000],[],[],0,g0,[],[fSm none 0],0,0⟩:=by
    show some (fS1.pick c)=_
    unfold Ts.pick
    rw[hr,hb]
    simp[fS1,Ch.cg,Sm.new,fSm]
  have h2:Ts.step c ⟨[1000000],[],[],0,g0,[],[fSm none 0],0,0⟩=none:=by
    unfold Ts.step
    simp[fSm,f_makes]
  have h3:fS1.mu=2+1:=by simp[Ts.mu,fS1]
  unfold Ts.pump
  rw[h3]
  unfold Ts.run
  rw[h1]
  show Ts.begin c (Ts.run c 2 ⟨[1000000],[],[],0,g0,[],[fSm none 0],0,0⟩)=_
  unfold Ts.run
  rw[h2]
  show Ts.begin c ⟨[1000000],[],[],0,g0,[],[fSm none 0],0,0⟩=_
  unfold Ts.begin
  rw[hv]
  cases v<;>simp[begins,fSm,f_makes,fS2]
theorem f_jobs (c:Cfg){y:Jbt}(hy:y∈(fS2 c).jobs):y.1=1:=by
  unfold Ts.jobs rkG at hy
  simp[fS2,jobsOf,fSm,List.range_succ] at hy
  rw[hy]
theorem f_jobs0 (c:Cfg):(fS2 c).jobs≠[]:=by
  unfold Ts.jobs rkG
  simp[fS2,jobsOf,fSm,List.range_succ]
theorem f_answer (c:Cfg):(fS2 c).answer 1 true=fS3:=by
  simp[Ts.answer,fS2,fS3,fSm,Sm.runs,Sm.ends]
theorem f_pump2 (c:Cfg):fS3.pump c=fS4:=by
  have h1:fS3.step c=some fS4:=by
    unfold Ts.step
    simp[fS3,fSm,f_makes,Ts.land,fS4]
  have h3:fS3.mu=0+1:=by simp[Ts.mu,fS3,fSm]
  unfold Ts.pump
  rw[h3]
  unfold Ts.run
  rw[h1]
  show Ts.begin c fS4=_
  unfold Ts.begin
  cases hw:c.window<;>simp[begins,fS4]
theorem f_end {c:Cfg}{σ:Sg}{p:Pe}(hG:Gd c σ p)(h:σ.ts c={fS4 with acked:=1}):p.landed.length=1/\p.tip.length=1:=by
  have hd:=hG.g.pos.done hG.g.ev hG.dr
  rw[h] at hd
  obtain⟨h1,h2⟩:=hd
  refine⟨by rw[h2];rfl,?_⟩
  have h3:=(h1.alike (Lists.made Lists.nil fE))
  unfold alikeL at h3
  rw[Bool.and_eq_true,beq_iff_eq] at h3
  rw[h3.1]
  simp[withL,fE,withOne,but,fEd]
theorem pNew0 (c:Cfg)(w:World)(hc:c.Ok):
    Calls prog 37 #[.agg #[.int .i64 c.lanes,.int .i64 c.age,.int .i64 c.batch,.int .i64 c.window,.int .i64 c.retries,.int .i64 c.deadline,.int .i64 c.queue],.slice none 0 0] w λe w'=>∃xb,e=.returned (.tuple #[.pointer (some ⟨xb,0,none⟩),.int .i64 0])/\ProgIs w' (λk=>w.heap.size<=k/\k<w'.heap.size) xb c Sg.zero 0 g0/\Below w.heap.size w w':=by
  have hg:Good okFl Prod.fst ([]:List Fl):=⟨λf hf=>(by cases hf),List.Pairwise.nil⟩
  have hk:CfgOk c.lanes c.age c.batch c.window c.retries c.deadline c.queue:=by
    obtain⟨h0,h1,h2,h3,h4,h5,h6⟩:=hc
    unfold CfgOk
    omega
  refine(mNew c [] none 0 0 w hk (.inl ⟨rfl,_,_,rfl⟩) (by decide) λf hf=>(by cases hf)).mono ?_
  rintro e w' ⟨h|h,hb⟩
  · obtain⟨_,xb,rfl,⟨Y,mb,rb,yb,hU,hM,h1,h2,h3,h4,h5,h6⟩,hnew⟩:=h
    exact⟨xb,rfl,.inl ⟨rfl,⟨⟨mb,.slice none 0 0,Y,rb,yb,0,hM,hU,λh=>(by cases h),⟨h1,hM.lt⟩,⟨h2,hU.run.lt⟩,λk hk=>⟨h6 k hk,hU.yl k hk⟩,by simp[Value.ownBlock],h3,h4,h5⟩,⟨hnew,hU.box.lt⟩,λk hk=>hk.2⟩⟩,hb⟩
  · exact absurd hg h.1
theorem pp_new {w w1:World}{c:Cfg}{xb:Nat}(h:ProgIs w1 (λk=>w.heap.size<=k/\k<w1.heap.size) xb c Sg.zero 0 g0)(hs:w.heap.size<=w1.heap.size):
    Pp (w1.alloc (.cells (plC xb c (.slice none 0 0) (.slice none 0 0) (.slice none 0 0) (.slice none 0 0) 0 0) 58)) (λk=>w.heap.size<=k/\k<w1.heap.size+1) w1.heap.size xb c Sg.zero Pe.zero:=by
  refine⟨⟨_,λ_=>False,λk=>k=w1.heap.size,⟨.slice none 0 0,.slice none 0 0,.slice none 0 0,.slice none 0 0,[],[]⟩,h.later (below_new _ _),?_,λk hk=>⟨id,λe=>Nat.lt_irrefl _ (e▸hk.2)⟩,?_⟩,λk hk=>by simpa using hk.2⟩
  · refine⟨Bx.new _ _ _,rfl,rfl,?_,?_,λy hy=>(by cases hy),λy hy=>(by cases hy),λy hy=>(by cases hy),⟨.inl ⟨rfl,_,_,rfl⟩,by simp[Value.ownBlock]⟩,?_,⟨rfl,by simp[Value.ownBlock],by simp[Value.ownBlock],by simp[Value.ownBlock]⟩,λk hk=>hk.elim,λk hk=>?_⟩
    · exact Sl.nil _ _ _
    · exact Sl.nil _ _ _
    · exact Sl.nil _ _ _
    · rcases hk with hk|hk
      · exact hk.elim
      · rw[hk];simp
  · rintro k (hk|hk|hk)
    · exact⟨hk.1,by omega⟩
    · exact hk.elim
    · have:k=w1.heap.size:=hk
      exact⟨by omega,by omega⟩
def StAt (w w':World)(pb xb:Nat)(c:Cfg)(s:Ts)(n:Nat):Prop:=∃σ p U,Pp w' U pb xb c σ p/\Below w.heap.size w w'/\(∀k,U k->w.heap.size<=k)/\Gd c σ p/\σ.ts c=s/\Kp p/\bud c σ<=n
theorem far {w w1 w2:World}{U U':Nat->Prop}(hb:Below w.heap.size w w1)(hU:∀k,U k->w.heap.size<=k)(hg:Grows w1 w2 U U'):Below w.heap.size w w2/\∀k,U' k->w.heap.size<=k:=
  ⟨below_only hb hg.only hU,λk hk=>(hg.sub k hk).elim (hU k) λh=>Nat.le_trans hb.size h⟩
theorem st_submit {w W:World}{U:Nat->Prop}{pb xb:Nat}{c:Cfg}{b:Nat}(h:Pp W U pb xb c Sg.zero Pe.zero)(hb:Below w.heap.size w W)(hU:∀k,U k->w.heap.size<=k)(hc:c.Ok)(hE:EditsAt W (.slice (some ⟨b,0,none⟩) 1 1) fE)(hnb:¬U b):
    Calls prog 21 #[.pointer (some ⟨pb,0,none⟩),.int .i64 1000000,.int .i64 0,.slice (some ⟨b,0,none⟩) 1 1] W λe w'=>e=.returned (.bool true)/\StAt w w' pb xb c fS1 2:=by
  have hb0:bud c Sg.zero=0:=rfl
  refine(pl_submit U pb xb c Sg.zero Pe.zero 1000000 0 fE (some ⟨b,0,none⟩) 1 W h (zero_gd c) hc (by omega) ⟨by decide,by decide,by decide,by have:=hc.1.1;omega,fE_ok⟩ hE (Nat.le_refl _) λq hq=>by cases hq;exact hnb).mono ?_
  rintro e w' ⟨he,σ',p',U',h1,h2,h3,h4⟩
  obtain⟨f1,f2⟩:=far hb hU h2
  have hbd:=h4.bud
  rcases h4 with ⟨h5,_,_⟩|⟨_,_,h5,h6,h7⟩
  · rcases h5 with h5|h5
    · cases h5
    · have h8:c.queue<=0:=h5
      have:=hc.2.2.2.2.2.2.1
      omega
  · exact⟨he,σ',p',U',h1,f1,f2,h3,h5,by rw[h7];exact⟨Nat.zero_lt_succ _,λi hi=>.inr (by simpa[Pe.zero] using hi)⟩,by omega⟩
theorem st_pump {w W:World}{pb xb:Nat}{c:Cfg}{s s':Ts}{n:Nat}(h:StAt w W pb xb c s n)(hc:c.Ok)(hs:{s.pump c with acked:=(s.pump c).outs.length}=s')(hn:n<1000):
    Calls prog 19 #[.pointer (some ⟨pb,0,none⟩)] W λe w'=>e=.returned (.bool true)/\StAt w w' pb xb c s' (n+1):=by
  obtain⟨σ,p,U,hp,hb,hU,hG,rfl,hk,hbd⟩:=h
  refine(pl_pump U pb xb c σ p W hp hG hc (by omega)).mono ?_
  rintro e w' ⟨he,σ',p',U',h1,h2,h3,h4⟩
  obtain⟨f1,f2⟩:=far hb hU h2
  exact⟨he,σ',p',U',h1,f1,f2,h3,h4.ts.trans hs,known_pos h4.kn hk,by have:=h4.bud;omega⟩
theorem st_ends {w W:World}{pb xb:Nat}{c:Cfg}{n:Nat}(h:StAt w W pb xb c (fS2 c) n)(hc:c.Ok)(hn:n<1000):
    Calls prog 59 #[.pointer (some ⟨pb,0,none⟩),.int .i64 0,.bool true] W λe w'=>e=.returned (.bool true)/\StAt w w' pb xb c fS3 (n+1):=by
  obtain⟨σ,p,U,hp,hb,hU,hG,hs,hk,hbd⟩:=h
  refine(pl_ends U pb xb c σ p 0 true W hp hG hc (by omega) (by decide)).mono ?_
  rintro e w' ⟨he,σ',p',U',h1,h2,h3,h4⟩
  obtain⟨f1,f2⟩:=far hb hU h2
  have hbd':=h4.bud
  rw[Endd,hs] at h4
  rcases h4 with ⟨h5,_⟩|⟨y,hy,h5,_,h7⟩
  · exact absurd h5 (f_jobs0 c)
  · rw[f_jobs c hy,f_answer] at h5
    exact⟨he,σ',p',U',h1,f1,f2,h3,h5,by rw[h7];exact hk,by omega⟩
theorem st_lens {w w':World}{pb xb:Nat}{c:Cfg}{n:Nat}(h:StAt w w' pb xb c {fS4 with acked:=1} n):∃ta tc la lc,w'.cell? ⟨pb,10,none⟩=some (.slice ta 1 tc)/\w'.cell? ⟨pb,11,none⟩=some (.slice la 1 lc):=by
  obtain⟨σ,p,U,hp,hb,hU,hG,hs,hk,hbd⟩:=h
  obtain⟨e1,e2⟩:=f_end hG hs
  obtain⟨X,R,V,v,hP,hL,hap,hU⟩:=hp.ex
  have c10:=hL.bx.c 10 v.tv
  have c11:=hL.bx.c 11 v.lv
  obtain⟨la,lc,hl⟩:=hL.lr.form
  rw[e1] at hl
  rw[hl] at c11
  rcases hL.tr.1 with ⟨h0,_⟩|⟨b,off,cap,ht,_⟩
  · rw[h0] at e2;cases e2
  · rw[e2] at ht
    rw[ht] at c10
    exact⟨_,_,_,_,c10,c11⟩
theorem st_first {w w0 w1:World}{c:Cfg}{xb:Nat}(hX:ProgIs w1 (λk=>w0.heap.size<=k/\k<w1.heap.size) xb c Sg.zero 0 g0)(hbw:Below w.heap.size w w1)(h01:w0.heap.size<=w1.heap.size)(h0:w.heap.size<=w0.heap.size)(hc:c.Ok):
    Calls prog 21 #[.pointer (some ⟨w1.heap.size,0,none⟩),.int .i64 1000000,.int .i64 0,.slice (some ⟨w1.heap.size+1,0,none⟩) 1 1] ((w1.alloc (.cells (plC xb c (.slice none 0 0) (.slice none 0 0) (.slice none 0 0) (.slice none 0 0) 0 0) 58)).alloc (.cells #[.string ⟨#[102,105,114,115,116]⟩,.string ⟨#[]⟩,.string ⟨#[49]⟩] 49)) λe w'=>e=.returned (.bool true)/\StAt w w' w1.heap.size xb c fS1 2:=by
  have hp:=pp_new hX h01
  have hp2:=hp.later (below_new _ (.cells #[.string ⟨#[102,105,114,115,116]⟩,.string ⟨#[]⟩,.string ⟨#[49]⟩] 49))
  have hsz:(w1.alloc (.cells (plC xb c (.slice none 0 0) (.slice none 0 0) (.slice none 0 0) (.slice none 0 0) 0 0) 58)).heap.size=w1.heap.size+1:=by simp
  have hb2:Below w.heap.size w ((w1.alloc (.cells (plC xb c (.slice none 0 0) (.slice none 0 0) (.slice none 0 0) (.slice none 0 0) 0 0) 58)).alloc (.cells #[.string ⟨#[102,105,114,115,116]⟩,.string ⟨#[]⟩,.string ⟨#[49]⟩] 49)):=(hbw.alloc hbw.size _).alloc (by rw[hsz];exact Nat.le_trans hbw.size (Nat.le_succ _)) _
  have hrow:=ed_new1 w1 (.cells (plC xb c (.slice none 0 0) (.slice none 0 0) (.slice none 0 0) (.slice none 0 0) 0 0) 58) (.string ⟨#[102,105,114,115,116]⟩) (.string ⟨#[]⟩) (.string ⟨#[49]⟩) 49
  refine st_submit hp2 hb2 (λk hk=>Nat.le_trans h0 hk.1) hc (.inr ⟨w1.heap.size+1,0,1,rfl,by simp,λi hi=>?_,λi hi=>?_,λi hi=>?_⟩) λhk=>Nat.lt_irrefl _ hk.2
  · obtain rfl:i=0:=by have:i<1:=hi;omega
    exact hrow 0 _ rfl
  · obtain rfl:i=0:=by have:i<1:=hi;omega
    exact hrow 1 _ rfl
  · obtain rfl:i=0:=by have:i<1:=hi;omega
    exact hrow 2 _ rfl
def PlayerGives (w w':World)(e:Ending)(c:Cfg):Prop:=∃pb xb,e=.returned (.pointer (some ⟨pb,0,none⟩))/\StAt w w' pb xb c {fS4 with acked:=1} 5
theorem law_player (c:Cfg)(w:World)(hc:c.Ok):
    Calls prog 16 #[.agg #[.int .i64 c.lanes,.int .i64 c.age,.int .i64 c.batch,.int .i64 c.window,.int .i64 c.retries,.int .i64 c.deadline,.int .i64 c.queue]] w λe w'=>PlayerGives w w' e c:=by
  have hb0:=below_new w (.cells #[.int .i64 c.lanes,.int .i64 c.age,.int .i64 c.batch,.int .i64 c.window,.int .i64 c.retries,.int .i64 c.deadline,.int .i64 c.queue] 23)
  have hN:=pNew0 c (w.alloc (.cells #[.int .i64 c.lanes,.int .i64 c.age,.int .i64 c.batch,.int .i64 c.window,.int .i64 c.retries,.int .i64 c.deadline,.int .i64 c.queue] 23)) hc
  have hB:=Bx.new w #[.int .i64 c.lanes,.int .i64 c.age,.int .i64 c.batch,.int .i64 c.window,.int .i64 c.retries,.int .i64 c.deadline,.int .i64 c.queue] 23
  have HC:Hid c.Ok:=hc
  clear hc
  go_enter func16,ntmps16
  go_wp2_with fail
  go_fit hN
  rintro e w1 ⟨xb,rfl,hX,hb1⟩
  have hB1:Bx w1 w.heap.size 23 #[.int .i64 c.lanes,.int .i64 c.age,.int .i64 c.batch,.int .i64 c.window,.int .i64 c.retries,.int .i64 c.deadline,.int .i64 c.queue]:=(hb1.block _ hB.lt).trans hB
  have x0:=hB1.c 0 (.int .i64 c.lanes)
  have x1:=hB1.c 1 (.int .i64 c.age)
  have x2:=hB1.c 2 (.int .i64 c.batch)
  have x3:=hB1.c 3 (.int .i64 c.window)
  have x4:=hB1.c 4 (.int .i64 c.retries)
  have x5:=hB1.c 5 (.int .i64 c.deadline)
  have x6:=hB1.c 6 (.int .i64 c.queue)
  have hbw:Below w.heap.size w w1:=hb0.trans (hb1.mono hb0.size)
  have hS:=st_first hX hbw hb1.size hb0.size HC.out
  unfold plC at hS
  clear hB hB1 hb0 hb1 hN hX hbw
  go_wp2_with fail
  go_fit hS
  rintro e w2 ⟨rfl,h2⟩
  have hC2:=st_pump h2 HC.out (s':=fS2 c) (by rw[f_pump1 c HC.out];rfl) (by decide)
  clear hS h2 x0 x1 x2 x3 x4 x5 x6
  go_wp2_with fail
  go_fit hC2
  rintro e w3 ⟨rfl,h3⟩
  have hC3:=st_ends h3 HC.out (by decide)
  clear hC2 h3
  go_wp2_with fail
  go_fit hC3
  rintro e w4 ⟨rfl,h4⟩
  have hC4:=st_pump h4 HC.out (s':={fS4 with acked:=1}) (by rw[f_pump2 c];rfl) (by decide)
  clear hC3 h4
  go_wp2_with fail
  go_fit hC4
  rintro e w5 ⟨rfl,h5⟩
  have HF:Hid (StAt w w5 w1.heap.size xb c {fS4 with acked:=1} 5):=h5
  obtain⟨ta,tc,la,lc,d10,d11⟩:=st_lens h5
  clear hC4 h5
  go_wp2_with fail
  go_ret
  exact⟨_,_,rfl,HF.out⟩
section
open Go.ChangeShapes Go.WideShapes Go.ChangeAt
theorem tz_own:ownKnob prog.godebug=none:=by kernel_rfl
theorem tz_laidOut:laidOutB prog=true:=by kernel_rfl
theorem tz_int:prog.cellsOf 3=1:=by kernel_rfl
theorem len7 {α:Type}{l:List α}(h:l.length=7):∃a b c d e f g,l=[a,b,c,d,e,f,g]:=by
  match l,h with
  |[a,b,c,d,e,f,g],_=>exact⟨a,b,c,d,e,f,g,rfl⟩
section
variable {H : Type} {enc : TypeId × Value → H} {W : World}
theorem one_int {n:Nat}{v:Value}{x:Option (DataW H×List MemPlace)}(h:DataW.trod enc prog W 0 (λ_=>true) true n 3 [v]=x)(hx:x.isSome=true):∃k:Int,v=.int .i64 k/\-9223372036854775808<=k/\k<9223372036854775808:=by
  obtain⟨y,rfl⟩:=Option.isSome_iff_exists.1 hx
  obtain⟨k,h1,_,h3⟩:=DataW.trod_int underlying3 h
  refine⟨k,by simpa using h1,?_⟩
  have hb:IntKind.i64.min=-9223372036854775808/\IntKind.i64.max=9223372036854775807:=by decide
  simp only[Lit.wf,Bool.and_eq_true,decide_eq_true_eq,hb.1,hb.2] at h3
  omega
theorem cfg_of {n:Nat}{cs:List Value}{x:DataW H×List MemPlace}(hl:cs.length=7)(h:DataW.trod enc prog W 0 (λ_=>true) true n 23 cs=some x):∃n0 n1 n2 n3 n4 n5 n6:Int,cs=[.int .i64 n0,.int .i64 n1,.int .i64 n2,.int .i64 n3,.int .i64 n4,.int .i64 n5,.int .i64 n6]/\(-9223372036854775808<=n0/\n0<9223372036854775808)/\(-9223372036854775808<=n1/\n1<9223372036854775808)/\(-9223372036854775808<=n2/\n2<9223372036854775808)/\(-9223372036854775808<=n3/\n3<9223372036854775808)/\(-9223372036854775808<=n4/\n4<9223372036854775808)/\(-9223372036854775808<=n5/\n5<9223372036854775808)/\(-9223372036854775808<=n6/\n6<9223372036854775808):=by
  obtain⟨xs,k,hk,hxy,_,hxl,hf⟩:=DataW.trod_struct underlying23 h
  obtain⟨y0,y1,y2,y3,y4,y5,y6,rfl⟩:=len7 (l:=xs) (by simpa using hxl)
  obtain⟨v0,v1,v2,v3,v4,v5,v6,rfl⟩:=len7 hl
  have g0:=hf 0 _ rfl
  have g1:=hf 1 _ rfl
  have g2:=hf 2 _ rfl
  have g3:=hf 3 _ rfl
  have g4:=hf 4 _ rfl
  have g5:=hf 5 _ rfl
  have g6:=hf 6 _ rfl
  simp[tz_int] at g0 g1 g2 g3 g4 g5 g6
  obtain⟨n0,rfl,hr0⟩:=one_int g0 rfl
  obtain⟨n1,rfl,hr1⟩:=one_int g1 rfl
  obtain⟨n2,rfl,hr2⟩:=one_int g2 rfl
  obtain⟨n3,rfl,hr3⟩:=one_int g3 rfl
  obtain⟨n4,rfl,hr4⟩:=one_int g4 rfl
  obtain⟨n5,rfl,hr5⟩:=one_int g5 rfl
  obtain⟨n6,rfl,hr6⟩:=one_int g6 rfl
  exact⟨n0,n1,n2,n3,n4,n5,n6,rfl,hr0,hr1,hr2,hr3,hr4,hr5,hr6⟩
end
end
def Tn (w w':World)(pb xb:Nat)(c:Cfg)(σ:Sg)(p:Pe):Prop:=∃U,Pp w' U pb xb c σ p/\Below w.heap.size w w'/\∀k,U k->w.heap.size<=k
theorem Tn.below {w w':World}{pb xb:Nat}{c:Cfg}{σ:Sg}{p:Pe}(h:Tn w w' pb xb c σ p):Below w.heap.size w w':=by
  obtain⟨U,h1,h2,h3⟩:=h
  exact h2
theorem Tn.later {w w1 w2:World}{pb xb:Nat}{c:Cfg}{σ:Sg}{p:Pe}(h:Tn w w1 pb xb c σ p)(hb:Below w1.heap.size w1 w2):Tn w w2 pb xb c σ p:=by
  obtain⟨U,h1,h2,h3⟩:=h
  exact⟨U,h1.later hb,h2.trans (hb.mono h2.size),h3⟩
theorem Tn.cell {w w':World}{pb xb:Nat}{c:Cfg}{σ:Sg}{p:Pe}(h:Tn w w' pb xb c σ p):w'.cell? ⟨pb,0,none⟩=some (.pointer (some ⟨xb,0,none⟩)):=by
  obtain⟨U,h1,h2,h3⟩:=h
  exact h1.cell.1
theorem Tn.ask {w W:World}{pb xb:Nat}{c:Cfg}{σ:Sg}{p:Pe}{f:Nat}{args:Array Value}{Q:Ending->World->Prop}(h:Tn w W pb xb c σ p)(hc:∀X,ProgIs W X xb c σ 0 g0->Calls prog f args W λe w'=>Q e w'/\Below W.heap.size W w'):
    Calls prog f args W λe w'=>Q e w'/\Below W.heap.size W w'/\Tn w w' pb xb c σ p:=by
  obtain⟨U,h1,h2,h3⟩:=h
  refine(h1.ask hc).mono ?_
  rintro e w' ⟨hq,hb,hp⟩
  exact⟨hq,hb,U,hp,h2.trans (hb.mono h2.size),h3⟩
theorem Tn.queue {w W:World}{pb xb:Nat}{c:Cfg}{σ:Sg}{p:Pe}(h:Tn w W pb xb c σ p)(hσ:σ.Ok c g0)(hc:c.Ok)(hn:σ.rs.length<1048576):
    Calls prog 27 #[.pointer (some ⟨xb,0,none⟩)] W λe w'=>TellsQ W w' e c g0 σ/\Below W.heap.size W w'/\Tn w w' pb xb c σ p:=
  h.ask λX hX=>pQueue X xb c σ 0 g0 W hX hσ hc hn
def cfgSt (w:World)(b:Nat)(c:Cfg):World:=((((((w.setCell ⟨b,0,none⟩ (.int .i64 c.lanes)).setCell ⟨b,1,none⟩ (.int .i64 c.age)).setCell ⟨b,2,none⟩ (.int .i64 c.batch)).setCell ⟨b,3,none⟩ (.int .i64 c.window)).setCell ⟨b,4,none⟩ (.int .i64 c.retries)).setCell ⟨b,5,none⟩ (.int .i64 c.deadline)).setCell ⟨b,6,none⟩ (.int .i64 c.queue)
theorem cfg_st {w:World}{b:Nat}{t:TypeId}{a0 a1 a2 a3 a4 a5 a6:Value}(h:Bx w b t #[a0,a1,a2,a3,a4,a5,a6])(c:Cfg):Bx (cfgSt w b c) b t #[.int .i64 c.lanes,.int .i64 c.age,.int .i64 c.batch,.int .i64 c.window,.int .i64 c.retries,.int .i64 c.deadline,.int .i64 c.queue]:=by
  have h0:=h.set 0 (.int .i64 c.lanes)
  have h1:=h0.set 1 (.int .i64 c.age)
  have h2:=h1.set 2 (.int .i64 c.batch)
  have h3:=h2.set 3 (.int .i64 c.window)
  have h4:=h3.set 4 (.int .i64 c.retries)
  have h5:=h4.set 5 (.int .i64 c.deadline)
  have h6:=h5.set 6 (.int .i64 c.queue)
  simp only[List.setIfInBounds_toArray,List.set_cons_zero,List.set_cons_succ] at h6
  exact h6
theorem cfg_below {B:Nat}{w wr:World}(h:Below B w wr){b:Nat}(hb:B<=b)(c:Cfg):Below B w (cfgSt wr b c):=
  below_set (below_set (below_set (below_set (below_set (below_set (below_set h hb 0 _) hb 1 _) hb 2 _) hb 3 _) hb 4 _) hb 5 _) hb 6 _
end Go.Proofs.YtgamgomepdfgdaaGreat
