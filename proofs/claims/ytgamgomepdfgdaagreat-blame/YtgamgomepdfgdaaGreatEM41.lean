import Derived.Test.YtgamgomepdfgdaaGreatEM40
set_option maxRecDepth 100000
set_option maxHeartbeats 8000000
namespace Go.Proofs.YtgamgomepdfgdaaGreat
open Go.RowKit Go.Proofs.Tryz
def tE:List Ed:=[(⟨#[116,111,114,110]⟩,⟨#[]⟩,⟨#[120]⟩)]
theorem tE_ok:EditsOK tE:=⟨by simp[tE],by simp[tE],λx hx=>by rw[List.mem_singleton.1 hx];simp only[okEd,okEdit,okFill,okText,Lib.toList_data];decide,by unfold Apart;simp[tE]⟩
def tR (pump:Bool):Rc:=if pump then ⟨3,0,0,false,[]⟩ else ⟨1,0,500000,false,tE⟩
def tSize (pump:Bool):Nat:=if pump then 9 else 27
theorem tR_len (pump:Bool):(tR pump).bytes.length=tSize pump:=by cases pump<;>decide+kernel
theorem rc7_len:rc7.bytes.length=9:=by decide+kernel
theorem Gd0.lost {c:Cfg}{σ σ':Sg}{p:Pe}(h:Gd0 c σ p)(hr:σ'.rs=σ.rs++[rc7])(hu:σ'.up=true)(hb:σ'.br=false)(hT:σ'.T=[]):Gd0 c σ' p/\σ'.ts c=(σ.ts c).lose/\NotedJ p.jobs (σ'.ts c).segs:=by
  have hts:σ'.ts c=(σ.ts c).lose:=by
    unfold Sg.ts
    rw[hr]
    exact(Ts.all_snoc c g0 σ.rs rc7).trans (by simp[Ts.does,rc7])
  refine⟨⟨⟨by rw[hr];exact .snoc h.ok.fits (can7 _ _),by rw[hT];exact torn_nil,λ_=>hT,λh'=>by rw[hu] at h';cases h'⟩,hu,hb,by rw[hts];exact h.ev.lose,?_,by rw[hts];exact h.now,h.eok,h.tl,h.jt⟩,hts,?_⟩
  · rw[hts]
    exact⟨h.pos.ids,h.pos.num,h.pos.kinds,h.pos.landed,h.pos.tip⟩
  · rw[hts]
    intro x hx j hj
    obtain⟨z,_,rfl⟩:=List.mem_map.1 (show x∈(σ.ts c).segs.map _ from hx)
    cases hj
def cut (keep:Int)(size:Nat):Nat:=(max 0 (min keep size)).toNat
def Sg.torn (σ:Sg)(keep:Int)(r:Rc):Sg:=if (r.bytes.length:Int)<=keep then ⟨σ.rs++[r],false,[],false,keep⟩ else ⟨σ.rs,false,r.bytes.take keep.toNat,false,keep⟩
theorem torn_act {σ:Sg}{keep:Int}{r:Rc}(hu:σ.up=true):(σ.brk keep)=(0,⟨σ.rs,true,σ.T,true,keep⟩)/\(⟨σ.rs,true,σ.T,true,keep⟩:Sg).act 0 r=(8,σ.torn keep r):=by
  refine⟨by simp[Sg.brk,hu],?_⟩
  unfold Sg.act Sg.write Sg.torn
  simp
theorem torn_down (σ:Sg)(keep:Int)(r:Rc):(σ.torn keep r).up=false:=by unfold Sg.torn;split<;>rfl
theorem torn_back (σ:Sg)(keep:Int)(r:Rc):(σ.torn keep r).recover=(0,⟨(σ.torn keep r).rs++[rc7],true,[],false,keep⟩):=by
  unfold Sg.recover
  rw[if_pos (torn_down σ keep r)]
  unfold Sg.torn;split<;>rfl
structure TornB (B TB AB:List UInt8)(n size:Nat):Prop where
  lt:TB.length=B.length+n
  pre:TB.take B.length=B
  la:AB.length=(if n=size then B.length+size else B.length)+9
  eq:AB.take (if n=size then B.length+size else B.length)=TB.take (if n=size then B.length+size else B.length)
theorem torn_bytes (σ:Sg)(keep:Int)(r:Rc):TornB (allB σ.rs) (allB (σ.torn keep r).rs++(σ.torn keep r).T) (allB ((σ.torn keep r).rs++[rc7])) (cut keep r.bytes.length) r.bytes.length:=by
  unfold Sg.torn
  by_cases hk:(r.bytes.length:Int)<=keep
  · rw[if_pos hk]
    have hn:cut keep r.bytes.length=r.bytes.length:=by unfold cut;omega
    rw[hn]
    show TornB (allB σ.rs) (allB (σ.rs++[r])++[]) (allB (σ.rs++[r]++[rc7])) _ _
    rw[allB_snoc (σ.rs++[r]),allB_snoc σ.rs,List.append_nil]
    refine⟨by rw[List.length_append],by rw[List.take_left],?_,?_⟩
    · rw[if_pos rfl,List.length_append,List.length_append,rc7_len]
    · rw[if_pos rfl,<-List.length_append,List.take_left,List.take_length]
  · rw[if_neg hk]
    have hn:cut keep r.bytes.length=keep.toNat:=by unfold cut;omega
    have hne:keep.toNat≠r.bytes.length:=by have:=r.bytes_len;omega
    rw[hn]
    show TornB (allB σ.rs) (allB σ.rs++r.bytes.take keep.toNat) (allB (σ.rs++[rc7])) _ _
    rw[allB_snoc]
    refine⟨by rw[List.length_append,List.length_take];omega,by rw[List.take_left],?_,?_⟩
    · rw[if_neg hne,List.length_append,rc7_len]
    · rw[if_neg hne,List.take_left,List.take_left]
def Tn (w w':World)(pb xb:Nat)(c:Cfg)(σ:Sg)(p:Pe):Prop:=∃U,Pp w' U pb xb c σ p/\Below w.heap.size w w'/\∀k,U k->w.heap.size<=k
theorem Tn.below {w w':World}{pb xb:Nat}{c:Cfg}{σ:Sg}{p:Pe}(h:Tn w w' pb xb c σ p):Below w.heap.size w w':=by
  obtain⟨U,h1,h2,h3⟩:=h
  exact h2
theorem Tn.later {w w1 w2:World}{pb xb:Nat}{c:Cfg}{σ:Sg}{p:Pe}(h:Tn w w1 pb xb c σ p)(hb:Below w1.heap.size w1 w2):Tn w w2 pb xb c σ p:=by
  obtain⟨U,h1,h2,h3⟩:=h
  exact⟨U,h1.later hb,h2.trans (hb.mono h2.size),h3⟩
theorem Tn.cell {w w':World}{pb xb:Nat}{c:Cfg}{σ:Sg}{p:Pe}(h:Tn w w' pb xb c σ p):w'.cell? ⟨pb,0,none⟩=some (.pointer (some ⟨xb,0,none⟩)):=by
  obtain⟨U,h1,h2,h3⟩:=h
  exact h1.cell.1
theorem Tn.call {w W:World}{pb xb:Nat}{c:Cfg}{σ σ':Sg}{p:Pe}{f:Nat}{args:Array Value}{k:Int}(h:Tn w W pb xb c σ p)(hc:∀X,ProgIs W X xb c σ 0 g0->(∀k,X k->w.heap.size<=k)->Calls prog f args W λe w'=>PDid W w' e X xb c 0 g0 (k,σ')):
    Calls prog f args W λe w'=>e=.returned (.int .i64 k)/\Tn w w' pb xb c σ' p:=by
  obtain⟨U,h1,h2,h3⟩:=h
  refine(h1.call (a:=(k,σ')) λX hX hXU=>hc X hX λk hk=>h3 k (hXU k hk)).mono ?_
  rintro e w' ⟨he,U',g1,g2⟩
  obtain⟨f1,f2⟩:=far h2 h3 g2
  exact⟨he,U',g1,f1,f2⟩
theorem Tn.ask {w W:World}{pb xb:Nat}{c:Cfg}{σ:Sg}{p:Pe}{f:Nat}{args:Array Value}{Q:Ending->World->Prop}(h:Tn w W pb xb c σ p)(hc:∀X,ProgIs W X xb c σ 0 g0->Calls prog f args W λe w'=>Q e w'/\Below W.heap.size W w'):
    Calls prog f args W λe w'=>Q e w'/\Below W.heap.size W w'/\Tn w w' pb xb c σ p:=by
  obtain⟨U,h1,h2,h3⟩:=h
  refine(h1.ask hc).mono ?_
  rintro e w' ⟨hq,hb,hp⟩
  exact⟨hq,hb,U,hp,h2.trans (hb.mono h2.size),h3⟩
theorem Tn.log {w W:World}{pb xb:Nat}{c:Cfg}{σ:Sg}{p:Pe}(h:Tn w W pb xb c σ p)(hσ:σ.Ok c g0)(hc:c.Ok)(hn:σ.rs.length<1048576):
    Calls prog 28 #[.pointer (some ⟨xb,0,none⟩)] W λe w'=>e=.returned (.string (bs (allB σ.rs++σ.T)))/\w'=W:=by
  obtain⟨U,h1,h2,h3⟩:=h
  obtain⟨X,R,V,v,hP,hL,hap,hU⟩:=h1.ex
  exact pLog X xb c σ 0 g0 W hP hσ hc hn
theorem Tn.queue {w W:World}{pb xb:Nat}{c:Cfg}{σ:Sg}{p:Pe}(h:Tn w W pb xb c σ p)(hσ:σ.Ok c g0)(hc:c.Ok)(hn:σ.rs.length<1048576):
    Calls prog 27 #[.pointer (some ⟨xb,0,none⟩)] W λe w'=>TellsQ W w' e c g0 σ/\Below W.heap.size W w'/\Tn w w' pb xb c σ p:=
  h.ask λX hX=>pQueue X xb c σ 0 g0 W hX hσ hc hn
theorem Tn.drain {w W:World}{pb xb:Nat}{c:Cfg}{σ:Sg}{p:Pe}(h:Tn w W pb xb c σ p)(hG:Gd0 c σ p)(hnt:NotedJ p.jobs (σ.ts c).segs)(hc:c.Ok){n:Nat}(hn:bud c σ<=n)(hs:n<1000000):
    Calls prog 33 #[.pointer (some ⟨pb,0,none⟩)] W λe w'=>e=.returned (.bool true)/\∃σ' p',Tn w w' pb xb c σ' p'/\Gd c σ' p'/\bud c σ'<=n:=by
  obtain⟨U,h1,h2,h3⟩:=h
  obtain⟨q1,q2⟩:=hG.few hc
  refine(pl_drain U pb xb c σ p W h1 hG hc (by unfold bud at hn;omega)).mono ?_
  rintro e w' ⟨he,σ',p',U',g1,g2,g3,g4,g5⟩
  obtain⟨f1,f2⟩:=far h2 h3 g2
  have hle:=g4.le g5 q2
  have e1:(σ'.ts c).outs=(σ.ts c).outs:=by rw[g4.ts]
  have hb:=g4.bud hle (by rw[g5,e1];exact q1)
  exact⟨he,σ',p',⟨U',g1,f1,f2⟩,g3.drained g4 g5 hnt,by omega⟩
theorem Tn.looks {w W:World}{pb xb:Nat}{c:Cfg}{σ:Sg}{p:Pe}(h:Tn w W pb xb c σ p)(hG:Gd c σ p)(hc:c.Ok){n:Nat}(hn:bud c σ<=n)(hs:n<1000000):
    Calls prog 20 #[.pointer (some ⟨pb,0,none⟩)] W λe w'=>e=.returned (.bool true)/\Tn w w' pb xb c σ p:=by
  obtain⟨U,h1,h2,h3⟩:=h
  refine(pl_looks U pb xb c σ p W h1 hG.g hc (by unfold bud at hn;omega) hG.dr).mono ?_
  rintro e w' ⟨he,hb,hp⟩
  exact⟨he,U,hp,h2.trans (hb.mono h2.size),h3⟩
theorem Tn.crash {w W:World}{pb xb:Nat}{c:Cfg}{σ:Sg}{p:Pe}(h:Tn w W pb xb c σ p)(hG:Gd c σ p)(hc:c.Ok){n:Nat}(hn:bud c σ<=n)(hs:n<1000000):
    Calls prog 34 #[.pointer (some ⟨pb,0,none⟩)] W λe w'=>e=.returned (.bool true)/\Below w.heap.size w w':=by
  obtain⟨U,h1,h2,h3⟩:=h
  refine(pl_crash U pb xb c σ p W h1 hG hc (by omega)).mono ?_
  rintro e w' ⟨he,σ',p',U',g1,g2,g3,g4⟩
  exact⟨he,(far h2 h3 g2).1⟩
def cfgSt (w:World)(b:Nat)(c:Cfg):World:=((((((w.setCell ⟨b,0,none⟩ (.int .i64 c.lanes)).setCell ⟨b,1,none⟩ (.int .i64 c.age)).setCell ⟨b,2,none⟩ (.int .i64 c.batch)).setCell ⟨b,3,none⟩ (.int .i64 c.window)).setCell ⟨b,4,none⟩ (.int .i64 c.retries)).setCell ⟨b,5,none⟩ (.int .i64 c.deadline)).setCell ⟨b,6,none⟩ (.int .i64 c.queue)
theorem cfg_st {w:World}{b:Nat}{t:TypeId}{a0 a1 a2 a3 a4 a5 a6:Value}(h:Bx w b t #[a0,a1,a2,a3,a4,a5,a6])(c:Cfg):Bx (cfgSt w b c) b t #[.int .i64 c.lanes,.int .i64 c.age,.int .i64 c.batch,.int .i64 c.window,.int .i64 c.retries,.int .i64 c.deadline,.int .i64 c.queue]:=by
  have h0:=h.set 0 (.int .i64 c.lanes)
  have h1:=h0.set 1 (.int .i64 c.age)
  have h2:=h1.set 2 (.int .i64 c.batch)
  have h3:=h2.set 3 (.int .i64 c.window)
  have h4:=h3.set 4 (.int .i64 c.retries)
  have h5:=h4.set 5 (.int .i64 c.deadline)
  have h6:=h5.set 6 (.int .i64 c.queue)
  simp only[List.setIfInBounds_toArray,List.set_cons_zero,List.set_cons_succ] at h6
  exact h6
theorem cfg_below {B:Nat}{w wr:World}(h:Below B w wr){b:Nat}(hb:B<=b)(c:Cfg):Below B w (cfgSt wr b c):=
  below_set (below_set (below_set (below_set (below_set (below_set (below_set h hb 0 _) hb 1 _) hb 2 _) hb 3 _) hb 4 _) hb 5 _) hb 6 _
theorem Script.later {w w':World}{sa:Option Addr}{xs:List Sa}(h:xs=[]\/∃b off,sa=some ⟨b,off,none⟩/\b<w.heap.size/\∀i (h:i<xs.length) j u,(cSa xs[i])[j]? =some u->w.cell? ⟨b,off+i*5+j,none⟩=some u)(hb:Below w.heap.size w w'):xs=[]\/∃b off,sa=some ⟨b,off,none⟩/\b<w'.heap.size/\∀i (h:i<xs.length) j u,(cSa xs[i])[j]? =some u->w'.cell? ⟨b,off+i*5+j,none⟩=some u:=by
  rcases h with h|⟨b,off,e,hl,hc⟩
  · exact .inl h
  · exact .inr ⟨b,off,e,Nat.lt_of_lt_of_le hl hb.size,λi h j u hu=>jcell_after hb (hc i h j u hu)⟩
theorem Sa.Ok.later {w w':World}{a:Sa}(h:a.Ok w)(hb:Below w.heap.size w w'):a.Ok w':=⟨h.ed.later hb,h.sm,h.rg,h.ln⟩
theorem tn_end {w W:World}{pb xb:Nat}{c:Cfg}{σ:Sg}{p:Pe}{n:Nat}(h:Tn w W pb xb c σ p)(hG:Gd0 c σ p)(hnt:NotedJ p.jobs (σ.ts c).segs)(hc:c.Ok)(hn:bud c σ<=n)(hs:n<1000000):
    Calls prog 33 #[.pointer (some ⟨pb,0,none⟩)] W λe w1=>e=.returned (.bool true)/\
      Calls prog 20 #[.pointer (some ⟨pb,0,none⟩)] w1 λe w2=>e=.returned (.bool true)/\
        Calls prog 34 #[.pointer (some ⟨pb,0,none⟩)] w2 λe w3=>e=.returned (.bool true)/\Below w.heap.size w w3:=by
  refine(h.drain hG hnt hc hn hs).mono ?_
  rintro e w1 ⟨he,σ1,p1,h1,hG1,hn1⟩
  refine⟨he,(h1.looks hG1 hc hn1 hs).mono ?_⟩
  rintro e w2 ⟨he,h2⟩
  exact⟨he,h2.crash hG1 hc hn1 hs⟩
end Go.Proofs.YtgamgomepdfgdaaGreat
