import Derived.StillTailTactics
import Derived.Test.YtgamgomepdfgdaaGreatFM35
import Derived.Test.YtgamgomepdfgdaaGreatFM36
set_option maxRecDepth 100000
set_option maxHeartbeats 8000000
namespace Go.Proofs.YtgamgomepdfgdaaGreat
open Go.RowKit Go.Proofs.Tryz
theorem pl_looks (U:Nat->Prop)(pb xb:Nat)(c:Cfg)(σ:Sg)(p:Pe)(w:World)(h:Pp w U pb xb c σ p)(hG:Gd0 c σ p)(hc:c.Ok)(hn:σ.rs.length<1048576)(hdr:(σ.ts c).acked=(σ.ts c).outs.length):
    Calls prog 20 #[.pointer (some ⟨pb,0,none⟩)] w λe w'=>e=.returned (.bool true)/\Below w.heap.size w w'/\Pp w' U pb xb c σ p:=by
  obtain⟨X,R,V,v,hP,hL,hap,hU⟩:=h.ex
  refine(pl_looks0 R V pb xb c σ p v w X hP hL hG hc hn hdr).mono ?_
  rintro e w' ⟨he,hb⟩
  exact⟨he,hb,h.later hb⟩
structure Gd (c:Cfg)(σ:Sg)(p:Pe):Prop where
  g:Gd0 c σ p
  dr:(σ.ts c).acked=(σ.ts c).outs.length
  nt:NotedJ p.jobs (σ.ts c).segs
def bud (c:Cfg)(σ:Sg):Nat:=σ.rs.length+((σ.ts c).ids.length-(σ.ts c).acked)
theorem Gd0.few {c:Cfg}{σ:Sg}{p:Pe}(h:Gd0 c σ p)(hc:c.Ok):(σ.ts c).outs.length<=(σ.ts c).ids.length/\(σ.ts c).acked<=(σ.ts c).outs.length:=by
  have h1:(σ.ts c).outs.length+(σ.ts c).queue.length+trainLen (σ.ts c).segs=(σ.ts c).ids.length:=(h.ok.fits.inv hc).1.cnt
  have h2:(σ.ts c).acked<=(σ.ts c).outs.length:=(h.ok.fits.inv hc).1.ack
  exact⟨by omega,h2⟩
theorem Dr.bud {c:Cfg}{σ σ':Sg}{p p':Pe}(h:Dr c σ σ' p p')(h0:(σ.ts c).acked<=(σ'.ts c).acked)(h1:(σ'.ts c).acked<=(σ.ts c).ids.length):Go.Proofs.YtgamgomepdfgdaaGreat.bud c σ'=Go.Proofs.YtgamgomepdfgdaaGreat.bud c σ:=by
  unfold Go.Proofs.YtgamgomepdfgdaaGreat.bud
  have e:(σ'.ts c).ids=(σ.ts c).ids:=by rw[h.ts]
  have:=h.len
  rw[e];omega
theorem Dr.le {c:Cfg}{σ σ':Sg}{p p':Pe}(h:Dr c σ σ' p p')(hd:(σ'.ts c).acked=(σ'.ts c).outs.length)(h0:(σ.ts c).acked<=(σ.ts c).outs.length):(σ.ts c).acked<=(σ'.ts c).acked:=by
  have e:(σ'.ts c).outs=(σ.ts c).outs:=by rw[h.ts]
  rw[hd,e];exact h0
theorem pump_same (c:Cfg)(s:Ts):(s.pump c).ids=s.ids/\(s.pump c).now=s.now/\(s.pump c).acked=s.acked:=by
  obtain⟨a1,a2,a3,a4⟩:=Ts.run_same (c:=c) s.mu s
  exact⟨a1,a3,a4⟩
theorem Gd.pump0 {c:Cfg}{σ:Sg}{p:Pe}(h:Gd c σ p)(hc:c.Ok):Gd0 c σ.pump.2 p/\σ.pump.1=0/\σ.pump.2.ts c=(σ.ts c).pump c/\σ.pump.2.rs.length=σ.rs.length+1:=by
  have hact:σ.pump=(0,{σ with rs:=σ.rs++[⟨3,0,0,false,[]⟩]}):=Sg.act_ok h.g.up h.g.br
  have hts:σ.pump.2.ts c=(σ.ts c).pump c:=ts_snoc h.g.up h.g.br
  have hI:(σ.ts c).Inv c:=(h.g.ok.fits.inv hc).1
  obtain⟨hE,os,ho,hg⟩:=h.g.ev.pump hI hc
  obtain⟨e1,e2,e3⟩:=pump_same c (σ.ts c)
  refine⟨⟨h.g.ok.act hc λ_=>pump_can,by rw[hact];exact h.g.up,by rw[hact];exact h.g.br,by rw[hts];exact hE,by rw[hts];exact h.g.pos.more h.dr e1 e3 ho hg,by rw[hts,e2];exact h.g.now,h.g.eok,h.g.tl,h.g.jt⟩,by rw[hact],hts,by rw[hact];simp⟩
structure Pumped (c:Cfg)(σ σ':Sg)(p p':Pe):Prop where
  ts:σ'.ts c={(σ.ts c).pump c with acked:=((σ.ts c).pump c).outs.length}
  bud:Go.Proofs.YtgamgomepdfgdaaGreat.bud c σ'<=Go.Proofs.YtgamgomepdfgdaaGreat.bud c σ+1
  kn:p'.known.map (λk=>(k.id,k.es))=p.known.map λk=>(k.id,k.es)
theorem pl_pump (U:Nat->Prop)(pb xb:Nat)(c:Cfg)(σ:Sg)(p:Pe)(w:World)(h:Pp w U pb xb c σ p)(hG:Gd c σ p)(hc:c.Ok)(hn:bud c σ+1<1048576):
    Calls prog 19 #[.pointer (some ⟨pb,0,none⟩)] w λe w'=>e=.returned (.bool true)/\∃σ' p' U',Pp w' U' pb xb c σ' p'/\Grows w w' U U'/\Gd c σ' p'/\Pumped c σ σ' p p':=by
  obtain⟨hG1,hz,hts1,hl1⟩:=hG.pump0 hc
  have hrs:σ.rs.length<1048576:=by unfold bud at hn;omega
  have hcall:=h.call (a:=σ.pump) λX hX _=>pPump X xb c σ 0 g0 w hX hG.g.ok hc hrs (by omega)
  rw[hz] at hcall
  obtain⟨s1,hs1⟩:∃s,s=σ.pump.2:=⟨_,rfl⟩
  rw[<-hs1] at hcall hG1 hts1 hl1
  have e1:(s1.ts c).ids=(σ.ts c).ids/\(s1.ts c).acked=(σ.ts c).acked:=by rw[hts1];exact⟨(pump_same c _).1,(pump_same c _).2.2⟩
  obtain⟨f1,f2⟩:=hG1.few hc
  have hbud:bud c s1=bud c σ+1:=by unfold bud;rw[hl1,e1.1,e1.2];omega
  have hn1:s1.rs.length+((s1.ts c).outs.length-(s1.ts c).acked)<1048576:=by unfold bud at hbud hn;omega
  have HG1:Hid (Gd0 c s1 p):=hG1
  have HT1:Hid (s1.ts c=(σ.ts c).pump c):=hts1
  have HBud:Hid (bud c s1=bud c σ+1):=hbud
  have Hn:Hid (bud c σ+1<1048576):=hn
  have b0:=h.cell.1
  clear h hG hG1 hts1 hl1 hz hs1 hrs e1 hbud f1 f2 hn
  go_enter func19,ntmps19
  go_wp2_with fail
  refine hcall.mono ?_
  rintro _ w1 ⟨rfl,U1,hp1,hg1⟩
  have Hg1:Hid (Grows w w1 U U1):=hg1
  have hd:=pl_drain U1 pb xb c s1 p w1 hp1 HG1.out hc hn1
  clear hcall b0 hp1 hg1 hn1
  go_wp2_with fail
  refine hd.mono ?_
  rintro _ w2 ⟨rfl,σ2,p2,U2,hp2,hg2,hG2,hD2,ha2⟩
  have hle:=hD2.le ha2 (HG1.out.few hc).2
  have hf2:=(hG2.few hc)
  have hids2:(σ2.ts c).ids=(s1.ts c).ids:=by rw[hD2.ts]
  have hb2:bud c σ2=bud c s1:=hD2.bud hle (by rw[<-hids2];omega)
  have hrs2:σ2.rs.length<1048576:=by have h1:=HBud.out;have h2:=Hn.out;unfold bud at hb2 h1 h2;omega
  have hs:=pl_seen U2 pb xb c σ2 p2 w2 hp2 hG2 hc hrs2 ha2
  have HD2:Hid (Dr c s1 σ2 p p2):=hD2
  have Ha2:Hid ((σ2.ts c).acked=(σ2.ts c).outs.length):=ha2
  have Hg2:Hid (Grows w w2 U U2):=Hg1.out.trans hg2
  have Hb2:Hid (bud c σ2=bud c s1):=hb2
  clear hd hp2 hg2 hG2 hD2 ha2 hle hf2 hids2 hb2 Hg1
  go_wp2_with fail
  refine hs.mono ?_
  rintro _ w3 ⟨rfl,new,U3,hp3,hg3,hG3,hN3⟩
  have hk:=pl_looks U3 pb xb c σ2 _ w3 hp3 hG3 hc hrs2 Ha2.out
  have HG3:Hid (Gd0 c σ2 {p2 with jobs:=p2.jobs++new}):=hG3
  have HN3:Hid (NotedJ (p2.jobs++new) (σ2.ts c).segs):=hN3
  have Hg3:Hid (Grows w w3 U U3):=Hg2.out.trans hg3
  clear hs hp3 hg3 hG3 hN3 Hg2
  go_wp2_with fail
  refine hk.mono ?_
  rintro _ w4 ⟨rfl,hb4,hp4⟩
  have HF:Hid (∃σ' p' U',Pp w4 U' pb xb c σ' p'/\Grows w w4 U U'/\Gd c σ' p'/\Pumped c σ σ' p p'):=by
    refine⟨σ2,_,U3,hp4,Hg3.out.trans (Grows.of_below hb4),⟨HG3.out,Ha2.out,HN3.out⟩,?_,?_,HD2.out.kn⟩
    · have h1:(σ2.ts c).outs=(s1.ts c).outs:=by rw[HD2.out.ts]
      rw[HD2.out.ts,Ha2.out,h1,HT1.out]
    · have h1:=HBud.out
      have h2:=Hb2.out
      omega
  clear hk hb4 hp4
  go_wp2
  go_ret
  exact⟨rfl,HF.out⟩
theorem pick_in (c:Int)(n:Nat)(hc:-9223372036854775808<=c/\c<9223372036854775808)(h0:0<n)(hn:n<1099511627776)(w:World):
    Calls prog 26 #[.int .i64 c,.int .i64 n] w λe w'=>(∃j:Nat,j<n/\e=.returned (.int .i64 j))/\w'=w:=by
  obtain⟨h1,h2⟩:=hc
  by_cases hneg:c<0
  · go_enter func26,ntmps26
    go_wp2_with fail
    go_ret
    refine⟨⟨(-(c+1)).toNat%n,Nat.mod_lt _ h0,?_⟩,rfl⟩
    have e:-((c+1).tmod n)=(((-(c+1)).toNat%n:Nat):Int):=by
      rw[<-Int.neg_tmod,Int.tmod_eq_emod_of_nonneg (by omega),Int.natCast_emod,Int.toNat_of_nonneg (by omega)]
    show Ending.returned (.int .i64 (-((c+1).tmod n)))=_
    rw[e]
  · go_enter func26,ntmps26
    go_wp2_with fail
    go_ret
    refine⟨⟨c.toNat%n,Nat.mod_lt _ h0,?_⟩,rfl⟩
    have e:c%n=((c.toNat%n:Nat):Int):=by
      rw[Int.natCast_emod,Int.toNat_of_nonneg (by omega)]
    show Ending.returned (.int .i64 (c%n))=_
    rw[e]
theorem info_kn:(prog.info? 53).map (λi=>(i.zero,i.size,i.bytes))=some (some (.agg #[.int .i64 0,.int .i64 0,.slice none 0 0]),3,40):=by kernel_rfl
theorem Pp.went {w w':World}{U X R V:Nat->Prop}{pb xb:Nat}{c:Cfg}{σ:Sg}{p':Pe}(hP:ProgIs w X xb c σ 0 g0)(hap:∀k,X k->¬R k/\¬V k)(hU:∀k,X k\/R k\/V k->U k)(hg:PlGo w w' R V pb xb c p'):∃U',Pp w' U' pb xb c σ p'/\Grows w w' U U':=by
  obtain⟨R',V',v',hL',hR',hV'⟩:=hg.ex
  have hP':ProgIs w' X xb c σ 0 g0:=hP.only hg.only λk hX=>(hap k hX).2
  refine⟨λk=>X k\/R' k\/V' k,⟨⟨X,R',V',v',hP',hL',λk hk=>⟨λhR=>?_,λhV=>?_⟩,λ_ h=>h⟩,λk hk=>?_⟩,⟨hg.only.mono λk hk=>hU k (.inr (.inr hk)),λk hk=>?_⟩⟩
  · rcases hR' k hR with hR|hR
    · exact(hap k hk).1 hR
    · have:=hP.xl k hk;omega
  · rcases hV' k hV with hV|hV
    · exact(hap k hk).2 hV
    · have:=hP.xl k hk;omega
  · rcases hk with hk|hk
    · exact hP'.xl k hk
    · exact hL'.lt k hk
  · rcases hk with hk|hk|hk
    · exact .inl (hU k (.inl hk))
    · exact(hR' k hk).imp (λh=>hU k (.inr (.inl h))) λh=>h
    · exact(hV' k hk).imp (λh=>hU k (.inr (.inr h))) λh=>h
theorem Sg.act_no {σ:Sg}{r:Rc}{err:Int}(hu:σ.up=true)(he:err≠0):σ.act err r=(err,σ):=by simp[Sg.act,hu,he]
theorem Gd.sub {c:Cfg}{σ:Sg}{p:Pe}{id lane:Nat}{es:List Ed}(h:Gd c σ p)(hc:c.Ok)(hch:ChOK c id lane es)(hnew:id∉(σ.ts c).ids)(hroom:(σ.ts c).queue.length<c.queue):
    SubErr c (σ.ts c) id lane es 0/\Gd c (σ.sub id lane es 0).2 {p with known:=p.known++[⟨id,0,es⟩]}/\(σ.sub id lane es 0).1=0/\(σ.sub id lane es 0).2.ts c={σ.ts c with ids:=(σ.ts c).ids++[id],queue:=(σ.ts c).queue++[⟨id,lane,0,(σ.ts c).ids.length,es⟩]}/\(σ.sub id lane es 0).2.rs.length=σ.rs.length+1:=by
  have he:SubErr c (σ.ts c) id lane es 0:=.inr (.inr (.inr ⟨hch,hnew,hroom,rfl⟩))
  have hcan:=(sub_can he rfl).1
  have hact:σ.sub id lane es 0=(0,{σ with rs:=σ.rs++[⟨1,lane,id,false,es⟩]}):=Sg.act_ok h.g.up h.g.br
  have hts:(σ.sub id lane es 0).2.ts c={σ.ts c with ids:=(σ.ts c).ids++[id],queue:=(σ.ts c).queue++[⟨id,lane,0,(σ.ts c).ids.length,es⟩]}:=(ts_snoc h.g.up h.g.br).trans (does1 c _ _ _ _)
  have hk:∀y,Has p.known y->Has (p.known++[⟨id,0,es⟩]) y:=λy ⟨k,hk,h⟩=>⟨k,List.mem_append_left _ hk,h⟩
  have hno:id∉(σ.ts c).outs.map Prod.fst:=λhm=>hnew (h.g.ev.perm.mem_iff.1 (List.mem_append_left _ hm))
  refine⟨he,⟨⟨h.g.ok.act hc λ_=>hcan,by rw[hact];exact h.g.up,by rw[hact];exact h.g.br,by rw[hts];exact h.g.ev.sub hnew,?_,by rw[hts];exact h.g.now,λk hk=>?_,h.g.tl,h.g.jt⟩,by rw[hts];exact h.dr,by rw[hts];exact h.nt⟩,by rw[hact],hts,by rw[hact];simp⟩
  · rw[hts]
    obtain⟨t,hl,hg⟩:=h.g.pos.tip
    refine⟨?_,h.g.pos.num,λk hk=>?_,h.g.pos.landed,t,hl,hg.mono hk⟩
    · show (p.known++[_]).map Kn.id=(σ.ts c).ids++[id]
      rw[List.map_append,h.g.pos.ids];rfl
    · rcases List.mem_append.1 hk with hk|hk
      · exact h.g.pos.kinds k hk
      · obtain rfl:=List.mem_singleton.1 hk
        refine(kindOf_not λhm=>hno ?_).symm
        obtain⟨o,ho,e⟩:=List.mem_map.1 hm
        exact List.mem_map.2 ⟨o,List.mem_of_mem_take ho,e⟩
  · rcases List.mem_append.1 hk with hk|hk
    · exact h.g.eok k hk
    · obtain rfl:=List.mem_singleton.1 hk
      exact⟨hch.2.2.2.2.1,hch.2.2.2.2.2.1⟩
def Subd (c:Cfg)(σ σ':Sg)(p p':Pe)(id lane:Nat)(es:List Ed):Prop:=
  ((id∈(σ.ts c).ids\/c.queue<=(σ.ts c).queue.length)/\σ'=σ/\p'=p)\/
  (id∉(σ.ts c).ids/\(σ.ts c).queue.length<c.queue/\σ'.ts c={σ.ts c with ids:=(σ.ts c).ids++[id],queue:=(σ.ts c).queue++[⟨id,lane,0,(σ.ts c).ids.length,es⟩]}/\σ'.rs.length=σ.rs.length+1/\p'={p with known:=p.known++[⟨id,0,es⟩]})
theorem Subd.bud {c:Cfg}{σ σ':Sg}{p p':Pe}{id lane:Nat}{es:List Ed}(h:Subd c σ σ' p p' id lane es):bud c σ'<=bud c σ+2:=by
  rcases h with ⟨_,rfl,_⟩|⟨_,_,h1,h2,_⟩
  · omega
  · unfold Go.Proofs.YtgamgomepdfgdaaGreat.bud
    rw[h1,h2]
    show σ.rs.length+1+(((σ.ts c).ids++[id]).length-(σ.ts c).acked)<=_
    rw[List.length_append,List.length_singleton]
    omega
theorem find_has {K:List Kn}{e:Ending}{id:Nat}(h:FindRes e K id):(id∈K.map Kn.id/\∃i:Nat,e=.returned (.int .i64 i))\/(id∉K.map Kn.id/\e=.returned (.int .i64 (-1))):=by
  rcases h with ⟨i,k,hk,hid,rfl⟩|⟨hno,rfl⟩
  · exact .inl ⟨List.mem_map.2 ⟨k,List.mem_of_getElem? hk,by omega⟩,i,rfl⟩
  · refine .inr ⟨λhm=>?_,rfl⟩
    obtain⟨k,hk,e⟩:=List.mem_map.1 hm
    exact hno k hk (by omega)
theorem Gd.ends {c:Cfg}{σ σ':Sg}{p:Pe}{D:Nat->Bool}{h now:Nat}(hG:Gd c σ p)(ok:σ'.Ok c g0)(up:σ'.up=true)(br:σ'.br=false)(hD:∀n,D n=true->∃x∈(σ.ts c).segs,∃j,x.job=some j/\j.num=n)(hh:h=1\/h=2)(e1:(σ'.ts c).ids=(σ.ts c).ids)(e2:(σ'.ts c).outs=(σ.ts c).outs)(e3:(σ'.ts c).queue=(σ.ts c).queue)(e4:(σ'.ts c).segs=(σ.ts c).segs.map (endD D h))(e5:(σ'.ts c).main=(σ.ts c).main)(e6:(σ'.ts c).tip=(σ.ts c).tip)(e7:(σ'.ts c).begun=(σ.ts c).begun)(e8:(σ'.ts c).acked=(σ.ts c).acked)(e9:now=(σ'.ts c).now):
    Gd c σ' {p with jobs:=setHow D h p.jobs,now:=now}:=by
  obtain⟨hl,_⟩:=hG.g.pos.done hG.g.ev hG.dr
  refine⟨⟨ok,up,br,hG.g.ev.ends hG.nt hD hh e1 e2 e3 e4 e5 e6 e7,⟨hG.g.pos.ids.trans e1.symm,hG.g.pos.num.trans e8.symm,λk hk=>?_,?_,(σ'.ts c).tip,by rw[e6];exact hl,?_⟩,e9,hG.g.eok,hG.g.tl,λe he=>?_⟩,by rw[e8,e2];exact hG.dr,by rw[e4];exact hG.nt.ends⟩
  · rw[e2,e8];exact hG.g.pos.kinds k hk
  · rw[e2,e8];exact hG.g.pos.landed
  · rw[e2,e8,hG.dr,List.drop_length];rfl
  · obtain⟨e',he',rfl⟩:=List.mem_map.1 he
    split
    · exact hG.g.jt e' he'
    · exact hG.g.jt e' he'
theorem runsI_iff {x:Sm}{n:Nat}:x.runsI (n:Int)=true↔∃j,x.job=some j/\j.num=n:=by
  unfold Sm.runsI
  cases x.job with
  |none=>simp
  |some j=>simp;omega
def AnsOk (c:Cfg)(σ:Sg)(p:Pe)(pass:Bool)(num:Nat):Prop:=
  AnsErr (σ.ts c) num 0/\∃σ',σ.answer num pass 0=(0,σ')/\σ'.ts c=(σ.ts c).answer num pass/\σ'.rs.length=σ.rs.length+1/\Gd c σ' {p with jobs:=setHow (λn=>n==num) (if pass then 1 else 2) p.jobs}/\AnsErr (σ'.ts c) num 6/\σ'.answer num pass 6=(6,σ')
theorem Gd.answer {c:Cfg}{σ:Sg}{p:Pe}{num:Nat}{pass:Bool}(hG:Gd c σ p)(hc:c.Ok)(hn:σ.rs.length<1048576)(hr:∃x∈(σ.ts c).segs,∃j,x.job=some j/\j.num=num):
    AnsOk c σ p pass num:=by
  have hI:=(hG.g.ok.fits.inv hc).1
  have hF:=(hG.g.ok.fits.inv hc).2.begun
  have hA:AnsErr (σ.ts c) num 0:=by
    obtain⟨x,hx,h⟩:=hr
    exact .inl ⟨⟨x,hx,runsI_iff.2 h⟩,rfl⟩
  have hcan:=(ans_can (pass:=pass) hA hI (by show (Ts.all c g0 σ.rs).begun<_;omega) rfl).1
  have hact:σ.answer num pass 0=(0,{σ with rs:=σ.rs++[⟨4,0,num,pass,[]⟩]}):=Sg.act_ok hG.g.up hG.g.br
  have hts:({σ with rs:=σ.rs++[⟨4,0,num,pass,[]⟩]}:Sg).ts c=(σ.ts c).answer num pass:=by
    have:=ts_snoc (c:=c) (r:=⟨4,0,num,pass,[]⟩) hG.g.up hG.g.br
    rw[Sg.act_ok hG.g.up hG.g.br] at this
    exact this.trans (does4 c _ _ _)
  have hok:(σ.answer num pass 0).2.Ok c g0:=hG.g.ok.act hc λ_=>hcan
  rw[hact] at hok
  have hseg:=answer_endD (σ.ts c) num pass
  refine⟨hA,_,hact,hts,by simp,?_,?_,Sg.act_no hG.g.up (by decide)⟩
  · have hD:∀n,(n==num)=true->∃x∈(σ.ts c).segs,∃j,x.job=some j/\j.num=n:=λn hn=>by
      have e:n=num:=by simpa using hn
      rw[e];exact hr
    have:=hG.ends (σ':={σ with rs:=σ.rs++[⟨4,0,num,pass,[]⟩]}) (D:=λn=>n==num) (h:=if pass then 1 else 2) (now:=p.now) hok hG.g.up hG.g.br hD (by cases pass<;>simp) (by rw[hts];rfl) (by rw[hts];rfl) (by rw[hts];rfl) (by rw[hts];exact hseg) (by rw[hts];rfl) (by rw[hts];rfl) (by rw[hts];rfl) (by rw[hts];rfl) (by rw[hts];exact hG.g.now)
    exact this
  · refine .inr ⟨λ⟨x,hx,h⟩=>?_,rfl⟩
    rw[hts,hseg] at hx
    obtain⟨j,hj,e⟩:=runsI_iff.1 h
    obtain⟨y,hy,rfl⟩:=List.mem_map.1 hx
    unfold endD at hj
    split at hj
    · split at hj
      · unfold Sm.ends at hj
        split at hj<;>cases hj
      · rename_i j' h1 h2
        rw[h1] at hj
        cases hj
        exact h2 (by simpa using e)
    · rename_i h1
      rw[h1] at hj;cases hj
theorem AnsOk.calls {c:Cfg}{σ:Sg}{p:Pe}{pass:Bool}{num:Nat}(h:AnsOk c σ p pass num)(hc:c.Ok)(ok:σ.Ok c g0)(hn:σ.rs.length+1<1048576):
    ∃σ',σ'.ts c=(σ.ts c).answer num pass/\σ'.rs.length=σ.rs.length+1/\Gd c σ' {p with jobs:=setHow (λn=>n==num) (if pass then 1 else 2) p.jobs}/\
      (∀W U1 pb xb,Pp W U1 pb xb c σ p->Calls prog 44 #[.pointer (some ⟨xb,0,none⟩),.int .i64 (num:Nat),.bool pass] W λe w'=>e=.returned (.int .i64 0)/\∃U',Pp w' U' pb xb c σ' p/\Grows W w' U1 U')/\
      (∀W U1 pb xb,Pp W U1 pb xb c σ' p->Calls prog 44 #[.pointer (some ⟨xb,0,none⟩),.int .i64 (num:Nat),.bool pass] W λe w'=>e=.returned (.int .i64 6)/\∃U',Pp w' U' pb xb c σ' p/\Grows W w' U1 U'):=by
  obtain⟨hA0,σ',hact,hts,hl1,hG',hA6,hact6⟩:=h
  have h1:∀X xb W,ProgIs W X xb c σ 0 g0->Calls prog 44 #[.pointer (some ⟨xb,0,none⟩),.int .i64 (num:Nat),.bool pass] W λe w'=>PDid W w' e X xb c 0 g0 (σ.answer num pass 0):=λX xb W hX=>pAnswer X xb c σ 0 g0 num 0 pass W hX ok hc (by omega) hA0
  have h2:∀X xb W,ProgIs W X xb c σ' 0 g0->Calls prog 44 #[.pointer (some ⟨xb,0,none⟩),.int .i64 (num:Nat),.bool pass] W λe w'=>PDid W w' e X xb c 0 g0 (σ'.answer num pass 6):=λX xb W hX=>pAnswer X xb c σ' 0 g0 num 6 pass W hX hG'.g.ok hc (by omega) hA6
  rw[hact] at h1
  rw[hact6] at h2
  exact⟨σ',hts,hl1,hG',λW U1 pb xb hW=>hW.call λX hX _=>h1 X xb W hX,λW U1 pb xb hW=>hW.call λX hX _=>h2 X xb W hX⟩
def mixH (D:Nat->Bool)(h k:Nat)(js:List Eo):List Eo:=setHow D h (js.take k)++js.drop k
theorem mixH_zero (D:Nat->Bool)(h:Nat)(js:List Eo):mixH D h 0 js=js:=by simp[mixH,setHow]
theorem mixH_all (D:Nat->Bool)(h:Nat)(js:List Eo):mixH D h js.length js=setHow D h js:=by simp[mixH]
theorem mixH_len (D:Nat->Bool)(h k:Nat)(js:List Eo):(mixH D h k js).length=js.length:=by
  unfold mixH setHow
  rw[List.length_append,List.length_map,List.length_take,List.length_drop];omega
theorem mixH_at {D:Nat->Bool}{h k:Nat}{js:List Eo}(hk:k<js.length):(mixH D h k js)[k]'(by rw[mixH_len];exact hk)=js[k]:=by
  unfold mixH
  rw[List.getElem_append_right (by unfold setHow;rw[List.length_map,List.length_take];omega)]
  simp only[setHow,List.length_map,List.length_take,List.getElem_drop]
  congr 1
  omega
theorem mixH_no {D:Nat->Bool}{h k:Nat}{js:List Eo}(hk:k<js.length)(hd:D js[k].num=false):mixH D h (k+1) js=mixH D h k js:=by
  unfold mixH setHow
  rw[List.take_succ_eq_append_getElem hk,List.map_append,List.drop_eq_getElem_cons hk]
  simp[hd]
theorem modify_mid {α:Type}(f:α->α):∀(A:List α) (x:α) (B:List α),(A++x::B).modify A.length f=A++f x::B
  |[],x,B=>by simp
  |a::A,x,B=>by
    rw[List.cons_append,List.length_cons,List.modify_succ_cons,modify_mid f A x B,List.cons_append]
theorem mixH_yes {D:Nat->Bool}{h k:Nat}{js:List Eo}(hk:k<js.length)(hd:D js[k].num=true):mixH D h (k+1) js=(mixH D h k js).modify k λe=>e.put h:=by
  have hl:(setHow D h (js.take k)).length=k:=by unfold setHow;rw[List.length_map,List.length_take];omega
  have h1:mixH D h k js=setHow D h (js.take k)++js[k]::js.drop (k+1):=by unfold mixH;rw[List.drop_eq_getElem_cons hk]
  have h2:=modify_mid (λe:Eo=>e.put h) (setHow D h (js.take k)) js[k] (js.drop (k+1))
  rw[hl] at h2
  rw[h1,h2]
  unfold mixH setHow
  rw[List.take_succ_eq_append_getElem hk,List.map_append]
  simp[hd,Eo.put]
theorem modify_two (l:List Eo)(k:Nat):(l.modify k λe=>e.put 2).modify k (λe=>e.put 1)=l.modify k λe=>e.put 1:=by
  refine List.ext_getElem (by simp) λi h1 h2=>?_
  simp only[List.getElem_modify]
  split<;>rfl
theorem sub_below {w w1 w2:World}(h1:w.grownBy w1 none)(h2:w1.grownBy w2 (some w.heap.size)):Below w.heap.size w w2:=
  ((Below.refl _ _).grown h1 (Nat.le_refl _) (by simp)).grown h2 h1.size (λk h=>by cases h;exact Nat.le_refl _)
theorem sub_step {w w1 w':World}{R V:Nat->Prop}{pb xb:Nat}{c:Cfg}{p:Pe}{v:Pv}{o:Obj}{kv ka ev:Value}{id:Nat}{es:List Ed}(h:PlIs w R V pb xb c p v)(hb:Below w.heap.size w w1)(e:v.kv=ka)(he:EditsAt w1 ev es)(hev:∀g,ev.ownBlock=some g->w.heap.size<=g/\g<w1.heap.size)(hS:Sl w' 53 3 kv (v.ks.length+1) (v.ks.flatMap cKn++[.int .i64 id,.int .i64 0,ev]))(hM:Moved (w1.alloc o) w' ka kv v.ks.length 1):
    ∃u,w'.cell? ⟨pb,8,none⟩=some u/\w'.frozen? ⟨pb,8,none⟩=false/\Hid (PlGo w (w'.setCell ⟨pb,8,none⟩ kv) R V pb xb c {p with known:=p.known++[⟨id,0,es⟩]}):=by
  subst e
  have hb2:Below w.heap.size w (w1.alloc o):=hb.trans ((below_new w1 o).mono hb.size)
  have h0:=h.later hb2
  obtain⟨row,hg,hr,_⟩:=hM.row
  have hB:Bx w' pb 58 (plC xb c v.kv v.jv v.tv v.lv p.number p.now):=h0.bx.grown hg λe=>h0.kr.ne h0.bx (by decide) (hr pb e.symm)
  obtain⟨h1,h2,h3⟩:=h0.addKn (k0:=⟨id,0,es⟩) (ev:=ev) hS hM (he.later (below_new _ _)) λg e=>⟨λhV=>by have:=h.lt g (.inr hV);have:=(hev g e).1;omega,Nat.lt_of_lt_of_le (hev g e).2 (by simp)⟩
  refine⟨_,hB.c 8 v.kv,hB.fr 8,⟨⟨_,_,_,h1,λk hk=>hk.imp (λh=>h) λe=>(hev k e).1,λk hk=>hk.elim .inl λe=>(h2 k e).imp (λh=>h) λe=>Nat.le_trans hb2.size e⟩,?_⟩⟩
  exact(Only.of_below (S:=V) hb2).trans h3 λ_ h=>.inl h
theorem pl_submit (U:Nat->Prop)(pb xb:Nat)(c:Cfg)(σ:Sg)(p:Pe)(id lane:Nat)(es:List Ed)(ea:Option Addr)(ec:Nat)(w:World)(h:Pp w U pb xb c σ p)(hG:Gd c σ p)(hc:c.Ok)(hn:bud c σ+2<1048576)(hch:ChOK c id lane es)(hE:EditsAt w (.slice ea es.length ec) es)(hcap:es.length<=ec)(hX:∀b,(Value.slice ea es.length ec).ownBlock=some b->¬U b):
    Calls prog 21 #[.pointer (some ⟨pb,0,none⟩),.int .i64 id,.int .i64 lane,.slice ea es.length ec] w λe w'=>e=.returned (.bool true)/\∃σ' p' U',Pp w' U' pb xb c σ' p'/\Grows w w' U U'/\Gd c σ' p'/\Subd c σ σ' p p' id lane es:=by
  have hrs:σ.rs.length<1048576:=by unfold bud at hn;omega
  have hq:=h.ask λX hX=>pQueue X xb c σ 0 g0 w hX hG.g.ok hc hrs
  have hs4:es.length<=4:=hch.2.2.2.2.2.1
  have hinv:=hG.g.ok.fits.inv hc
  have hql:(tellQ c.age (σ.ts c).queue).length=(σ.ts c).queue.length:=tellQ_len λx hx=>by have:=(hinv.1.top x hx).2.1;have:=hc.1.2;omega
  have hq16:(σ.ts c).queue.length<=16:=Nat.le_trans hinv.1.len hc.2.2.2.2.2.2.2
  obtain⟨s1,s2,s3,s4,s5,s6⟩:=hG.g.small hc hrs
  have b0:=h.cell.1
  have hup:=hG.g.up
  obtain⟨err,σ2,p2,he,hres⟩:∃err σ2 p2,SubErr c (σ.ts c) id lane es err/\((σ.sub id lane es err)=(err,σ2)/\Gd c σ2 p2/\Subd c σ σ2 p p2 id lane es/\((err=3/\id∈(σ.ts c).ids/\p2=p/\σ2=σ)\/(err=4/\id∉(σ.ts c).ids/\c.queue<=(σ.ts c).queue.length/\p2=p/\σ2=σ)\/(err=0/\id∉(σ.ts c).ids/\(σ.ts c).queue.length<c.queue/\p2={p with known:=p.known++[⟨id,0,es⟩]}))):=by
    by_cases hin:id∈(σ.ts c).ids
    · exact⟨3,σ,p,.inr (.inl ⟨hch,hin,rfl⟩),Sg.act_no hup (by decide),hG,.inl ⟨.inl hin,rfl,rfl⟩,.inl ⟨rfl,hin,rfl,rfl⟩⟩
    · by_cases hfu:c.queue<=(σ.ts c).queue.length
      · exact⟨4,σ,p,.inr (.inr (.inl ⟨hch,hin,hfu,rfl⟩)),Sg.act_no hup (by decide),hG,.inl ⟨.inr hfu,rfl,rfl⟩,.inr (.inl ⟨rfl,hin,hfu,rfl,rfl⟩)⟩
      · obtain⟨a1,a2,a3,a4,a5⟩:=hG.sub hc hch hin (by omega)
        exact⟨0,_,_,a1,Prod.ext a3 rfl,a2,.inr ⟨hin,by omega,a4,a5,rfl⟩,.inr (.inr ⟨rfl,hin,by omega,rfl⟩)⟩
  obtain⟨hsub,hG2,hS2,hcase⟩:=hres
  have HSub:Hid (∀W U1,Pp W U1 pb xb c σ p->(∀k,U1 k->U k\/w.heap.size<=k)->EditsAt W (.slice ea es.length ec) es->(∀b,(Value.slice ea es.length ec).ownBlock=some b->¬U1 b)->Calls prog 31 #[.pointer (some ⟨xb,0,none⟩),.int .i64 id,.int .i64 lane,.slice ea es.length ec] W λe w'=>e=.returned (.int .i64 err)/\∃U',Pp w' U' pb xb c σ2 p/\Grows W w' U1 U'):=λW U1 hW _ hEW hXW=>by
    have:=hW.call (a:=σ.sub id lane es err) λX hP hXU=>pSubmit X xb c σ 0 g0 id lane err es ea ec W hP hG.g.ok hc hrs he hEW hcap (by omega) λb e hXb=>hXW b e (hXU b hXb)
    rw[hsub] at this
    exact this
  have HE:Hid (EditsAt w (.slice ea es.length ec) es/\∀b,(Value.slice ea es.length ec).ownBlock=some b->¬U b):=⟨hE,hX⟩
  have HG2:Hid (Gd c σ2 p2/\Subd c σ σ2 p p2 id lane es):=⟨hG2,hS2⟩
  have Hids:Hid (p.known.map Kn.id=(σ.ts c).ids):=hG.g.pos.ids
  have Hcase:=hd' hcase
  clear h hG hG2 hS2 hsub he hch hE hX hinv hn hcase
  go_enter func21,ntmps21
  go_wp2_with fail
  refine hq.mono ?_
  rintro e w1 ⟨hT,hb1,hp1⟩
  rcases hT with ⟨_,qv,rfl,hrow⟩|⟨hu,_⟩
  · obtain⟨qa,qc,rfl⟩:=(Sl.of_row hrow).form
    have hsu:=HSub.out w1 U hp1 (λ_ h=>.inl h) (HE.out.1.later hb1) HE.out.2
    have b1:=hp1.cell.1
    have Hb1:Hid (Below w.heap.size w w1):=hb1
    have e1:(tellQ c.age (Ts.all c g0 σ.rs).queue).length=(σ.ts c).queue.length:=hql
    rw[e1]
    clear hq hrow hb1 hp1 b0 HSub hql e1
    go_wp2_with fail
    refine hsu.mono ?_
    rintro _ w2 ⟨rfl,U2,hp2,hg2⟩
    have hfi:=hp2.look (Q:=λe _=>FindRes e p.known (id:Nat)) λR V v hL=>(pl_find R V pb xb c p v (id:Nat) w2 hL (by omega)).mono λe w' hh=>⟨hh.1,hh.2▸Below.refl _ _⟩
    have Hg2:Hid (Grows w w2 U U2):=Grows.from_below Hb1.out hg2
    clear hsu b1 hp2 hg2 Hb1
    go_wp2_with fail
    refine hfi.mono ?_
    rintro e w3 ⟨hFr,hb3,hp3⟩
    have hc7:=hp3.cell.2.2.1
    have Hg3:Hid (Grows w w3 U U2):=Hg2.out.trans (Grows.of_below hb3)
    have Hp3:Hid (Pp w3 U2 pb xb c σ2 p):=hp3
    clear hfi hp3 hb3 Hg2
    rcases find_has hFr with ⟨hin,i,rfl⟩|⟨hin,rfl⟩
    · rw[Hids.out] at hin
      rcases Hcase.out with ⟨rfl,_,e2,rfl⟩|⟨_,hno,_⟩|⟨_,hno,_⟩
      · subst e2
        have HF:Hid (∃σ' p' U',Pp w3 U' pb xb c σ' p'/\Grows w w3 U U'/\Gd c σ' p'/\Subd c σ2 σ' p2 p' id lane es):=⟨_,_,_,Hp3.out,Hg3.out,HG2.out⟩
        clear hFr hin Hcase Hp3 Hg3 HG2 hc7
        go_wp2
        go_ret
        exact⟨rfl,HF.out⟩
      · exact absurd hin hno
      · exact absurd hin hno
    · rw[Hids.out] at hin
      rcases Hcase.out with ⟨_,hno,_⟩|⟨rfl,_,hfu,e2,rfl⟩|⟨rfl,_,hro,e2⟩
      · exact absurd hno hin
      · subst e2
        have HF:Hid (∃σ' p' U',Pp w3 U' pb xb c σ' p'/\Grows w w3 U U'/\Gd c σ' p'/\Subd c σ2 σ' p2 p' id lane es):=⟨_,_,_,Hp3.out,Hg3.out,HG2.out⟩
        have hfu':(c.queue:Int)<=((σ2.ts c).queue.length:Int):=by omega
        clear hFr hin Hcase Hp3 Hg3 HG2
        generalize (σ2.ts c).queue.length=ql at *
        go_wp2
        go_ret
        exact⟨rfl,HF.out⟩
      · have hro':¬(c.queue:Int)<=((σ.ts c).queue.length:Int):=by omega
        have He2:=hd' e2
        obtain⟨i0,hi,hz0,hz1,hz2⟩:=info_parts info49b
        have hsz:(prog.info? 49).map (·.size)=some 3:=by rw[hi];simp[hz1]
        have q2:Hid (i0.bytes*es.length<=281474976710656):=by
          show i0.bytes*es.length<=281474976710656
          rw[hz2];omega
        have hone:∀v∈es.flatMap cE,v.oneCell'=true:=one_flatE es
        have hEr:=HE.out.1.kept Hg3.out.only.size λq hq hl=>Hg3.out.only.block q hl (HE.out.2 q hq)
        have HEr:Hid (EditsAt w3 (.slice ea es.length ec) es):=hEr
        obtain⟨X,R,V,v,hP3,hL3,hap3,hU3⟩:=Hp3.out.ex
        obtain⟨ka,kc,ekv⟩:=hL3.kr.form
        have c83:w3.cell? ⟨pb,8,none⟩=some (.slice ka v.ks.length kc):=by rw[<-ekv];exact hL3.bx.cell (i:=8) rfl
        have hkr:=hL3.kr
        rw[ekv] at hkr
        have HKr:=hd' hkr
        have hkl:v.ks.length<1048576:=by have h1:=congrArg List.length hL3.ks;rw[List.length_map] at h1;omega
        have HL3:Hid (PlIs w3 R V pb xb c p v/\v.kv=.slice ka v.ks.length kc):=⟨hL3,ekv⟩
        have HX3:Hid (ProgIs w3 X xb c σ2 0 g0/\(∀k,X k->¬R k/\¬V k)/\∀k,X k\/R k\/V k->U2 k):=⟨hP3,hap3,hU3⟩
        obtain⟨k0,hk0,hy0,hy1,hy2⟩:=info_parts info_kn
        have q3:Hid (v.ks.length+1<=maxLen):=by show _<=_;unfold maxLen;omega
        have q4:Hid ((v.ks.length+1)*40<=140737488355328):=Nat.le_trans (Nat.mul_le_mul_right 40 (show v.ks.length+1<=1048576 by omega)) (by decide)
        have He0:Hid (∀W:World,W.ownsRow w3.heap.size 49 3 (.slice (some ⟨w3.heap.size,0,none⟩) es.length es.length) es.length (madeCells (Value.agg #[Value.string ⟨#[]⟩,Value.string ⟨#[]⟩,Value.string ⟨#[]⟩]).cells (es.length*3)).toList->(madeCells (Value.agg #[Value.string ⟨#[]⟩,Value.string ⟨#[]⟩,Value.string ⟨#[]⟩]).cells (es.length*3)).toList.drop (es.flatMap cE).length=[]):=λW hW=>by
          apply List.drop_eq_nil_of_le
          have:=hW.1
          rw[this,flat_len cE 3 (λ_=>rfl) es]
          exact Nat.le_refl _
        clear hFr hin Hcase e2 hEr hP3 hL3 hap3 hU3 ekv hkr
        generalize (σ.ts c).queue.length=ql at *
        go_wp2_with (first|(at_make;refine wpList_make_full _ rfl _ _ _ rfl w3.heap.size _ i0 _ 3 underlying27 hi hz0 hz1 _ _ _ _ es.length rfl rfl (by omega) (by omega) q2.out (by unfold maxLen;omega) (Nat.le_refl _) ?_;intro w4 hrow4 hg4)|(refine wpList_copyK _ rfl _ _ _ _ rfl 49 3 w3.heap.size underlying27 hsz _ es.length ea es.length ec rfl rfl (Nat.le_refl _) _ hrow4 (es.flatMap cE) (flat_len cE 3 (λ_=>rfl) es) (λh0=>src_edits (HEr.out.grown (show w3.grownBy w4 none from ⟨hg4.os,hg4.tape,hg4.output,hg4.size,hg4.block⟩) (Classical.em _)) h0) hone ?_;intro w5 hrow5 hg5;have hb5:=sub_below hg4 hg5;have c85:=below_ce hb5 c83;have HB5:=hd' hb5;rw[He0.out w4 hrow4,List.append_nil] at hrow5;have HR5:=hd' hrow5;clear hrow4 hrow5 hg4 hg5 hb5)|(at_builtin;refine wpList_append_slt _ rfl _ _ 54 rfl _ k0 _ 3 40 underlying54 hk0 hy0 hy1 hy2 rfl (by decide) (.slice ka v.ks.length kc) _ _ rfl (Sl.mk (HKr.out.later HB5.out) (.cells #[.int .i64 id,.int .i64 0,.slice (some ⟨w3.heap.size,0,none⟩) es.length es.length] 53)) ⟨w5.heap.size,0,none⟩ 1 1 [.int .i64 id,.int .i64 0,.slice (some ⟨w3.heap.size,0,none⟩) es.length es.length] rfl rfl (cells_new w5 _ _) (by simp[Value.oneCell']) (by decide) q3.out q4.out ?_;intro KV w6 hS6 hM6;obtain⟨a7,c7,rfl⟩:=hS6.form;obtain⟨u8,d8,f8,HF⟩:=sub_step HL3.out.1 HB5.out HL3.out.2 (EditsAt.of_row HR5.out) (λg e=>World.ownsRow.lt HR5.out g e) hS6 hM6;clear hS6 hM6))
        obtain⟨U9,hp9,hg9⟩:=Pp.went HX3.out.1 HX3.out.2.1 HX3.out.2.2 HF.out
        have HFin:Hid (∃σ' p' U',Pp (w6.setCell ⟨pb,8,none⟩ (.slice a7 (v.ks.length+1) c7)) U' pb xb c σ' p'/\Grows w (w6.setCell ⟨pb,8,none⟩ (.slice a7 (v.ks.length+1) c7)) U U'/\Gd c σ' p'/\Subd c σ σ' p p' id lane es):=⟨σ2,p2,U9,by rw[He2.out];exact hp9,Hg3.out.trans hg9,HG2.out⟩
        clear hp9 hg9 HF
        go_ret
        exact⟨rfl,HFin.out⟩
  · rw[hup] at hu;cases hu
def MkAt (w wr:World)(R V:Nat->Prop)(pb xb:Nat)(c:Cfg)(p:Pe)(D:Nat->Bool)(h k:Nat):Prop:=∃v,PlIs wr R V pb xb c {p with jobs:=mixH D h k p.jobs} v/\Only w wr V
theorem MkAt.facts {w wr:World}{R V:Nat->Prop}{pb xb:Nat}{c:Cfg}{p:Pe}{D:Nat->Bool}{h k:Nat}(hM:MkAt w wr R V pb xb c p D h k):
    (∃ja jc,wr.cell? ⟨pb,9,none⟩=some (.slice ja p.jobs.length jc)/\(∀hk:k<p.jobs.length,∃g off,ja=some ⟨g,off,none⟩/\wr.cell? ⟨g,off+k*6,none⟩=some (.int .i64 (p.jobs[k].num:Nat))/\(∃u,wr.cell? ⟨g,off+k*6+4,none⟩=some u)/\wr.frozen? ⟨g,off+k*6+4,none⟩=false/\g≠pb/\(∀u,(wr.setCell ⟨g,off+k*6+4,none⟩ u).cell? ⟨pb,9,none⟩=some (.slice ja p.jobs.length jc))/\
      (D p.jobs[k].num=true->MkAt w (wr.setCell ⟨g,off+k*6+4,none⟩ (.int .i64 h)) R V pb xb c p D h (k+1)/\(h=1->MkAt w ((wr.setCell ⟨g,off+k*6+4,none⟩ (.int .i64 2)).setCell ⟨g,off+k*6+4,none⟩ (.int .i64 1)) R V pb xb c p D h (k+1)))/\(D p.jobs[k].num=false->MkAt w wr R V pb xb c p D h (k+1)))):=by
  obtain⟨v,hL,hO⟩:=hM
  have hlen:v.es.length=p.jobs.length:=by
    have e:=congrArg List.length hL.es
    rw[List.length_map] at e
    exact e.trans (mixH_len D h k p.jobs)
  obtain⟨ja,jc,ej⟩:=hL.er.form
  have c9:wr.cell? ⟨pb,9,none⟩=some (.slice ja p.jobs.length jc):=by rw[<-hlen,<-ej];exact hL.bx.cell (i:=9) rfl
  refine⟨ja,jc,c9,λhk=>?_⟩
  have hkv:k<v.es.length:=by omega
  have her:=hL.er
  rw[ej] at her
  obtain⟨g,off,cap,e1,_⟩:=her.addr (by omega)
  cases e1
  have hat:v.es[k].1=p.jobs[k]:=by
    have:(v.es.map Prod.fst)[k]'(by rw[List.length_map];exact hkv)=(mixH D h k p.jobs)[k]'(by rw[mixH_len];exact hk):=by simp only[hL.es]
    rw[List.getElem_map] at this
    rw[this,mixH_at hk]
  have hne:g≠pb:=λe=>hL.er.ne hL.bx (by decide) (by rw[ej,<-e];rfl)
  have hVg:V g:=hL.vs.2.2.1 g (by rw[ej];rfl)
  have hput:=hL.putHow hkv ej
  refine⟨g,off,rfl,?_,⟨_,her.at_ (f:=cEo) (λ_=>rfl) hkv 4 rfl⟩,her.fr _,hne,λu=>?_,λhd=>⟨?_,λh1=>?_⟩,λhd=>?_⟩
  · have h0:wr.cell? ⟨g,off+k*6,none⟩=some (.int .i64 (v.es[k].1.num:Nat)):=her.at_ (f:=cEo) (λ_=>rfl) hkv 0 rfl
    rw[h0,hat]
  · rw[<-c9]
    exact World.cell?_of_block (w:=wr) ((grown_set wr g _ u).block pb (hL.lt pb (.inr hL.vs.1)) λe=>hne (by cases e;rfl))
  · refine⟨{v with es:=v.es.modify k λy=>(y.1.put h,y.2)},?_,Only.set hO (.inl hVg)⟩
    rw[mixH_yes hk hd]
    exact hput h
  · subst h1
    have h2:=hput 2
    have h3:=h2.putHow (i:=k) (g:=g) (off:=off) (cap:=jc) (by rw[List.length_modify];exact hkv) (by rw[List.length_modify];exact ej) 1
    refine⟨{v with es:=(v.es.modify k λy=>(y.1.put 2,y.2)).modify k λy=>(y.1.put 1,y.2)},?_,Only.set (Only.set hO (.inl hVg)) (.inl hVg)⟩
    rw[mixH_yes hk hd,<-modify_two]
    exact h3
  · exact⟨v,by rw[mixH_no hk hd];exact hL,hO⟩
def Endd (c:Cfg)(σ σ':Sg)(p p':Pe)(pass:Bool):Prop:=
  ((σ.ts c).jobs=[]/\σ'=σ/\p'=p)\/∃y∈(σ.ts c).jobs,σ'.ts c=(σ.ts c).answer y.1 pass/\σ'.rs.length=σ.rs.length+1/\p'={p with jobs:=setHow (λn=>n==y.1) (if pass then 1 else 2) p.jobs}
theorem Endd.bud {c:Cfg}{σ σ':Sg}{p p':Pe}{pass:Bool}(h:Endd c σ σ' p p' pass):bud c σ'<=bud c σ+1:=by
  rcases h with ⟨_,rfl,_⟩|⟨y,_,h1,h2,_⟩
  · omega
  · unfold Go.Proofs.YtgamgomepdfgdaaGreat.bud
    rw[h1,h2]
    show σ.rs.length+1+((σ.ts c).ids.length-(σ.ts c).acked)<=_
    omega
theorem pl_ends (U:Nat->Prop)(pb xb:Nat)(c:Cfg)(σ:Sg)(p:Pe)(kk:Int)(pass:Bool)(w:World)(h:Pp w U pb xb c σ p)(hG:Gd c σ p)(hc:c.Ok)(hn:bud c σ+1<1048576)(hkk:-9223372036854775808<=kk/\kk<9223372036854775808):
    Calls prog 59 #[.pointer (some ⟨pb,0,none⟩),.int .i64 kk,.bool pass] w λe w'=>e=.returned (.bool true)/\∃σ' p' U',Pp w' U' pb xb c σ' p'/\Grows w w' U U'/\Gd c σ' p'/\Endd c σ σ' p p' pass:=by
  have hrs:σ.rs.length+1<1048576:=by unfold bud at hn;omega
  have hj:=h.ask λX hX=>pJobs X xb c σ 0 g0 w hX hG.g.ok hc (by omega) (by omega)
  obtain⟨s1,s2,s3,s4,s5,s6⟩:=hG.g.small hc (by omega)
  have hI:(σ.ts c).Inv c:=(hG.g.ok.fits.inv hc).1
  have hup:=hG.g.up
  have b0:=h.cell.1
  have HA:Hid (∀y∈(σ.ts c).jobs,AnsOk c σ p pass y.1):=λy hy=>by
    obtain⟨x,hx,j,hj,e,_⟩:=hI.job_for hy
    exact hG.answer hc (by omega) ⟨x,hx,j,hj,e.symm⟩
  have HG:Hid (Gd c σ p):=hG
  have hfew:=hI.jobs_few
  clear h hG hI hn s1 s3 s4 s5 s6
  go_enter func59,ntmps59
  go_wp2_with fail
  refine hj.mono ?_
  rintro e w1 ⟨hJ,hb1,hp1⟩
  rcases hJ with ⟨_,jv,js,rfl,hfst,hOut⟩|⟨hu,_⟩
  · obtain⟨ja,jc,rfl⟩:=(Sl.of_row hOut.row).form
    have hlen:js.length=(σ.ts c).jobs.length:=by have h1:=congrArg List.length hfst;rw[List.length_map] at h1;exact h1
    have hjl:js.length<=8:=by omega
    have Hlen:=hd' hlen
    clear hlen hfew
    have Hfst:Hid (js.map Prod.fst=(σ.ts c).jobs):=hfst
    by_cases h0:js.length=0
    · have HF:Hid (∃σ' p' U',Pp w1 U' pb xb c σ' p'/\Grows w w1 U U'/\Gd c σ' p'/\Endd c σ σ' p p' pass):=⟨σ,p,U,hp1,Grows.of_below hb1,HG.out,.inl ⟨List.eq_nil_of_length_eq_zero (by have:=Hlen.out;omega),rfl,rfl⟩⟩
      clear hj hOut hb1 hp1 b0 HA HG Hfst hfst Hlen
      rw[h0]
      clear h0
      go_wp2
      go_ret
      exact⟨rfl,HF.out⟩
    · have hne0:((js.length:Int)==0)=false:=beq_false_of_ne (by omega)
      have hjr:=Sl.of_row hOut.row
      obtain⟨g1,o1,c1,e1,_⟩:=hjr.addr (by omega)
      cases e1
      have hpk:=pick_in kk js.length hkk (by omega) (by omega) w1
      have Hcell:Hid (∀m (hm:m<js.length),w1.cell? ⟨g1,o1+m*4,none⟩=some (.int .i64 (js[m].1.1:Nat))):=λm hm=>hjr.at_ (f:=cJv) (λ_=>rfl) hm 0 rfl
      have Hp1:Hid (Pp w1 U pb xb c σ p/\Below w.heap.size w w1):=⟨hp1,hb1⟩
      have b1:=hp1.cell.1
      clear hj hOut hb1 hp1 b0 hfst hjr
      go_wp2_with fail
      refine hpk.mono ?_
      rintro e w1' ⟨⟨m,hm,rfl⟩,e1⟩
      have e1:w1'=w1:=e1
      subst e1
      have cm:=Hcell.out m hm
      have hmem:(js[m].1)∈(σ.ts c).jobs:=by rw[<-Hfst.out];exact List.mem_map_of_mem (List.getElem_mem hm)
      have hok:=HA.out _ hmem
      have HM2:Hid (∀σ',σ'.ts c=(σ.ts c).answer js[m].1.1 pass->σ'.rs.length=σ.rs.length+1->Endd c σ σ' p {p with jobs:=setHow (λn=>n==js[m].1.1) (if pass then 1 else 2) p.jobs} pass):=λσ' h1 h2=>.inr ⟨_,hmem,h1,h2,rfl⟩
      generalize js[m].1.1=num at cm hok HM2
      obtain⟨σ',hts,hl1,hG',hca,hcb⟩:=hok.calls hc HG.out.g.ok hrs
      have HE:Hid (Gd c σ' {p with jobs:=setHow (λn=>n==num) (if pass then 1 else 2) p.jobs}/\Endd c σ σ' p {p with jobs:=setHow (λn=>n==num) (if pass then 1 else 2) p.jobs} pass):=⟨hG',HM2.out σ' hts hl1⟩
      have HCA:=hd' hca
      have HCB:=hd' hcb
      clear hok hts hl1 hG' hmem hca hcb HA Hcell hpk HM2 HG
      go_wp2_with fail
      refine(HCA.out w1' U pb xb Hp1.out.1).mono ?_
      rintro _ w2 ⟨rfl,U2,hp2,hg2⟩
      have b2:=hp2.cell.1
      have Hp2:Hid (Pp w2 U2 pb xb c σ' p):=hp2
      have Hg2:Hid (Grows w w2 U U2):=Grows.from_below Hp1.out.2 hg2
      clear hp2 hg2 b1 cm Hp1
      go_wp2_with fail
      refine(HCB.out w2 U2 pb xb Hp2.out).mono ?_
      rintro _ w3 ⟨rfl,U3,hp3,hg3⟩
      have Hg3:Hid (Grows w w3 U U3):=Hg2.out.trans hg3
      obtain⟨X,R,V,v,hP3,hL3,hap3,hU3⟩:=hp3.ex
      have HX3:Hid (ProgIs w3 X xb c σ' 0 g0/\(∀k,X k->¬R k/\¬V k)/\∀k,X k\/R k\/V k->U3 k):=⟨hP3,hap3,hU3⟩
      have H0:Hid (MkAt w3 w3 R V pb xb c p (λn=>n==num) (if pass then 1 else 2) 0):=⟨v,by rw[mixH_zero];exact hL3,Only.refl _ _⟩
      have Hfin:Hid (∀W,MkAt w3 W R V pb xb c p (λn=>n==num) (if pass then 1 else 2) p.jobs.length->∃σ' p' U',Pp W U' pb xb c σ' p'/\Grows w W U U'/\Gd c σ' p'/\Endd c σ σ' p p' pass):=λW hW=>by
        obtain⟨v',hL,hO⟩:=hW
        rw[mixH_all] at hL
        obtain⟨U9,hp9,hg9⟩:=Pp.went HX3.out.1 HX3.out.2.1 HX3.out.2.2 (⟨⟨R,V,v',hL,λ_ h=>.inl h,λ_ h=>.inl h⟩,hO⟩:PlGo w3 W R V pb xb c _)
        exact⟨σ',_,U9,hp9,Hg3.out.trans hg9,HE.out⟩
      clear hp3 hg3 hP3 hL3 hap3 hU3 b2 Hp2 Hg2 HCA HCB
      go_wp2_with fail
      go_loopw [12] (λiv wr=>∃k:Nat,k<=p.jobs.length/\iv=.int .i64 k/\Hid (MkAt w3 wr R V pb xb c p (λn=>n==num) (if pass then 1 else 2) k)) (λiv _=>p.jobs.length-(intOf iv).toNat)
      case atStart=>exact⟨0,Nat.zero_le _,rfl,H0⟩
      case round=>
        obtain⟨k,hk,rfl,HM⟩:=hrel
        obtain⟨ja,jc',c9,hfa⟩:=HM.out.facts
        clear H0
        by_cases hlt:k<p.jobs.length
        · obtain⟨g,off,rfl,k0,⟨u4,k4⟩,f4,hne,hcs,hyes,hno⟩:=hfa hlt
          cases hq:((p.jobs[k].num:Int)==(num:Int))
          · have Hn:=hd' (hno (by simp only[beq_eq_false_iff_ne] at hq ⊢;omega))
            generalize ((p.jobs[k].num:Nat):Int)=z at *
            clear hyes hno hcs hfa HM
            go_wp2
            exact⟨⟨k+1,hlt,by go_num,Hn⟩,by simp[intOf];omega⟩
          · obtain⟨hy1,hy2⟩:=hyes (by simp only[beq_iff_eq] at hq ⊢;omega)
            generalize ((p.jobs[k].num:Nat):Int)=z at *
            have d9:=hcs (.int .i64 2)
            clear hyes hno hcs hfa HM
            cases pass
            · have Hn:=hd' hy1
              clear hy1 hy2
              go_wp2
              exact⟨⟨k+1,hlt,by go_num,Hn⟩,by simp[intOf];omega⟩
            · have Hn:=hd' (hy2 rfl)
              clear hy1 hy2
              have f5:(wr.setCell ⟨g,off+k*6+4,none⟩ (.int .i64 2)).frozen? ⟨g,off+k*6+4,none⟩=false:=by simp[f4]
              go_wp2
              exact⟨⟨k+1,hlt,by go_num,Hn⟩,by simp[intOf];omega⟩
        · have e:k=p.jobs.length:=by omega
          have HF:=hd' (Hfin.out wr (by rw[<-e];exact HM.out))
          clear hfa HM e
          go_wp2
          go_ret
          exact⟨rfl,HF.out⟩
  · rw[hup] at hu;cases hu
def pickN (c:Int)(n:Nat):Nat:=(if c<0 then (-(c+1)).toNat else c.toNat)%n
theorem pickN_lt {c:Int}{n:Nat}(h:0<n):pickN c n<n:=Nat.mod_lt _ h
theorem pick_at (c:Int)(n:Nat)(hc:-9223372036854775808<=c/\c<9223372036854775808)(h0:0<n)(hn:n<1099511627776)(w:World):
    Calls prog 26 #[.int .i64 c,.int .i64 n] w λe w'=>e=.returned (.int .i64 (pickN c n:Nat))/\w'=w:=by
  obtain⟨h1,h2⟩:=hc
  unfold pickN
  by_cases hneg:c<0
  · rw[if_pos hneg]
    obtain⟨z,hz⟩:∃z,z=(-(c+1)).toNat%n:=⟨_,rfl⟩
    rw[<-hz]
    have Hz:=hd' hz
    clear hz
    go_enter func26,ntmps26
    go_wp2_with fail
    go_ret
    refine⟨?_,rfl⟩
    rw[Hz.out]
    have e:-((c+1).tmod n)=(((-(c+1)).toNat%n:Nat):Int):=by
      rw[<-Int.neg_tmod,Int.tmod_eq_emod_of_nonneg (by omega),Int.natCast_emod,Int.toNat_of_nonneg (by omega)]
    show Ending.returned (.int .i64 (-((c+1).tmod n)))=_
    rw[e]
  · rw[if_neg hneg]
    obtain⟨z,hz⟩:∃z,z=c.toNat%n:=⟨_,rfl⟩
    rw[<-hz]
    have Hz:=hd' hz
    clear hz
    go_enter func26,ntmps26
    go_wp2_with fail
    go_ret
    refine⟨?_,rfl⟩
    rw[Hz.out]
    have e:c%n=((c.toNat%n:Nat):Int):=by
      rw[Int.natCast_emod,Int.toNat_of_nonneg (by omega)]
    show Ending.returned (.int .i64 (c%n))=_
    rw[e]
theorem MkAt.later {w wr w':World}{R V:Nat->Prop}{pb xb:Nat}{c:Cfg}{p:Pe}{D:Nat->Bool}{h k:Nat}(hM:MkAt w wr R V pb xb c p D h k)(hb:Below wr.heap.size wr w'):MkAt w w' R V pb xb c p D h k:=by
  obtain⟨v,hL,hO⟩:=hM
  exact⟨v,hL.later hb,hO.trans (Only.of_below (S:=V) hb) λ_ h=>.inl h⟩
def Kp (p:Pe):Prop:=0<p.known.length/\∀i∈p.known.map Kn.id,i<=1000\/i=1000000
theorem known_pos {p p':Pe}(h:p'.known.map (λk=>(k.id,k.es))=p.known.map λk=>(k.id,k.es))(hp:Kp p):Kp p':=by
  have e:p'.known.map Kn.id=p.known.map Kn.id:=by
    have:=congrArg (List.map Prod.fst) h
    rw[List.map_map,List.map_map] at this
    exact this
  have hl:=congrArg List.length e
  simp only[List.length_map] at hl
  exact⟨by rw[hl];exact hp.1,by rw[e];exact hp.2⟩
theorem ed_new (w:World)(a b c:Value)(t:TypeId):∀j u,[a,b,c][j]? =some u->(w.alloc (.cells #[a,b,c] t)).cell? ((⟨w.heap.size,0,none⟩:Addr).add j)=some u:=by
  intro j u h
  match j,h with
  |0,h=>simp at h;subst h;simp[Addr.add]
  |1,h=>simp at h;subst h;simp[Addr.add]
  |2,h=>simp at h;subst h;simp[Addr.add]
theorem ed_new1 (w:World)(o:Obj)(a b c:Value)(t:TypeId):∀j u,[a,b,c][j]? =some u->((w.alloc o).alloc (.cells #[a,b,c] t)).cell? ((⟨w.heap.size+1,0,none⟩:Addr).add j)=some u:=by
  have:=ed_new (w.alloc o) a b c t
  simpa using this
def SettingsGive (e:Ending)(w w':World):Prop:=(∃c:Cfg,c.Ok/\e=.returned (.agg c.cells.toArray))/\Below w.heap.size w w'
theorem pick_lit (c:Int)(n:Nat)(m:Int)(hm:m=n)(hc:-9223372036854775808<=c/\c<9223372036854775808)(h0:0<n)(hn:n<1099511627776):∃z:Nat,z<n/\∀w,Calls prog 26 #[.int .i64 c,.int .i64 m] w λe w'=>e=.returned (.int .i64 (z:Nat))/\w'=w:=
  ⟨pickN c n,pickN_lt h0,λw=>by rw[hm];exact pick_at c n hc h0 hn w⟩
theorem still_tail {P:Program}{id:Nat}{Q:Exit->Act->World->Prop}{a:Act}{w:World}{l:List Oper}(n:Nat)(hm:P.follows .mixedOrders=true)(hB:Region.lexTailB .any l.toArray n=true)(h:∀(ops:Array Oper) (QQ:Act->Prop),Hid (∀a',wpList P l.toArray Q (l.drop n) a' w.drew->QQ a')->wpStill P ops w.drew QQ (l.take n) a):(Code.region id l.toArray true).wp P Q a w:=
  wp_region_still_tail n hm hB (h _ _ λ_ h=>h)
theorem law_settings (n0 n1 n2 n3 n4 n5 n6:Int)(w:World)(h0:-9223372036854775808<=n0/\n0<9223372036854775808)(h1:-9223372036854775808<=n1/\n1<9223372036854775808)(h2:-9223372036854775808<=n2/\n2<9223372036854775808)(h3:-9223372036854775808<=n3/\n3<9223372036854775808)(h4:-9223372036854775808<=n4/\n4<9223372036854775808)(h5:-9223372036854775808<=n5/\n5<9223372036854775808)(h6:-9223372036854775808<=n6/\n6<9223372036854775808):
    Calls prog 17 #[.agg #[.int .i64 n0,.int .i64 n1,.int .i64 n2,.int .i64 n3,.int .i64 n4,.int .i64 n5,.int .i64 n6]] w λe w'=>SettingsGive e w w':=by
  obtain⟨z0,b0,P0⟩:=pick_lit n0 4 4 rfl h0 (by decide) (by decide)
  obtain⟨z1,b1,P1⟩:=pick_lit n1 8 8 rfl h1 (by decide) (by decide)
  obtain⟨z2,b2,P2⟩:=pick_lit n2 8 8 rfl h2 (by decide) (by decide)
  obtain⟨z3,b3,P3⟩:=pick_lit n3 4 4 rfl h3 (by decide) (by decide)
  obtain⟨z4,b4,P4⟩:=pick_lit n4 4 4 rfl h4 (by decide) (by decide)
  obtain⟨z5,b5,P5⟩:=pick_lit n5 100 100 rfl h5 (by decide) (by decide)
  obtain⟨z6,b6,P6⟩:=pick_lit n6 16 16 rfl h6 (by decide) (by decide)
  clear h0 h1 h2 h3 h4 h5 h6
  go_enter func17,ntmps17
  go_upto_region 1 with fail
  have hbW:Below w.heap.size w ((w.alloc (.cells #[.int .i64 n0,.int .i64 n1,.int .i64 n2,.int .i64 n3,.int .i64 n4,.int .i64 n5,.int .i64 n6] 23)).alloc (.cells #[.int .i64 0,.int .i64 0,.int .i64 0,.int .i64 0,.int .i64 0,.int .i64 0,.int .i64 0] 23)):=(below_new _ _).trans ((below_new _ _).mono (by simp))
  have hB1:=Bx.mk (Bx.new w #[.int .i64 n0,.int .i64 n1,.int .i64 n2,.int .i64 n3,.int .i64 n4,.int .i64 n5,.int .i64 n6] 23) (.cells #[.int .i64 0,.int .i64 0,.int .i64 0,.int .i64 0,.int .i64 0,.int .i64 0,.int .i64 0] 23)
  have hB2:=Bx.new (w.alloc (.cells #[.int .i64 n0,.int .i64 n1,.int .i64 n2,.int .i64 n3,.int .i64 n4,.int .i64 n5,.int .i64 n6] 23)) #[.int .i64 0,.int .i64 0,.int .i64 0,.int .i64 0,.int .i64 0,.int .i64 0,.int .i64 0] 23
  have hsz:(w.alloc (.cells #[.int .i64 n0,.int .i64 n1,.int .i64 n2,.int .i64 n3,.int .i64 n4,.int .i64 n5,.int .i64 n6] 23)).heap.size=w.heap.size+1:=by simp
  rw[hsz] at hB2
  clear hsz
  generalize (w.alloc (.cells #[.int .i64 n0,.int .i64 n1,.int .i64 n2,.int .i64 n3,.int .i64 n4,.int .i64 n5,.int .i64 n6] 23)).alloc (.cells #[.int .i64 0,.int .i64 0,.int .i64 0,.int .i64 0,.int .i64 0,.int .i64 0,.int .i64 0] 23)=W at *
  have c0:=hB1.c 0 (.int .i64 n0)
  have c1:=hB1.c 1 (.int .i64 n1)
  have c2:=hB1.c 2 (.int .i64 n2)
  have c3:=hB1.c 3 (.int .i64 n3)
  have c4:=hB1.c 4 (.int .i64 n4)
  have c5:=hB1.c 5 (.int .i64 n5)
  have c6:=hB1.c 6 (.int .i64 n6)
  have HB2:Hid (Bx W (w.heap.size+1) 23 #[.int .i64 0,.int .i64 0,.int .i64 0,.int .i64 0,.int .i64 0,.int .i64 0,.int .i64 0]):=hB2
  clear hB1 hB2
  refine still_tail 28 (by kernel_rfl) (by kernel_rfl) λops QQ hQQ=>?_
  simp only[List.take_succ_cons,List.take_zero]
  still_step
  still_step
  still_call (P0 _)
  still_step
  still_step
  still_step
  still_call (P1 _)
  still_step
  still_step
  still_step
  still_call (P2 _)
  still_step
  still_step
  still_step
  still_call (P3 _)
  still_step
  still_step
  still_step
  still_call (P4 _)
  still_step
  still_step
  still_call (P5 _)
  still_step
  still_step
  still_step
  still_call (P6 _)
  still_step
  still_step
  refine wpStill_nil ?_
  refine hQQ.out _ ?_
  clear hQQ P0 P1 P2 P3 P4 P5 P6
  have e0:IntKind.i64.wrap (1+(z0:Int))=((1+z0:Nat):Int):=by rw[wrap_i64 (by omega) (by omega)];omega
  have e1:IntKind.i64.wrap (1+(z1:Int))=((1+z1:Nat):Int):=by rw[wrap_i64 (by omega) (by omega)];omega
  have e2:IntKind.i64.wrap (1+(z2:Int))=((1+z2:Nat):Int):=by rw[wrap_i64 (by omega) (by omega)];omega
  have e3:IntKind.i64.wrap (1+(z3:Int))=((1+z3:Nat):Int):=by rw[wrap_i64 (by omega) (by omega)];omega
  have e5:IntKind.i64.wrap (1+(z5:Int))=((1+z5:Nat):Int):=by rw[wrap_i64 (by omega) (by omega)];omega
  have e6:IntKind.i64.wrap (1+(z6:Int))=((1+z6:Nat):Int):=by rw[wrap_i64 (by omega) (by omega)];omega
  rw[e0,e1,e2,e3,e5,e6]
  clear e0 e1 e2 e3 e5 e6
  obtain⟨y0,hy0⟩:∃y,y=1+z0:=⟨_,rfl⟩
  rw[<-hy0]
  obtain⟨y1,hy1⟩:∃y,y=1+z1:=⟨_,rfl⟩
  rw[<-hy1]
  obtain⟨y2,hy2⟩:∃y,y=1+z2:=⟨_,rfl⟩
  rw[<-hy2]
  obtain⟨y3,hy3⟩:∃y,y=1+z3:=⟨_,rfl⟩
  rw[<-hy3]
  obtain⟨y5,hy5⟩:∃y,y=1+z5:=⟨_,rfl⟩
  rw[<-hy5]
  obtain⟨y6,hy6⟩:∃y,y=1+z6:=⟨_,rfl⟩
  rw[<-hy6]
  obtain⟨y4,hy4⟩:∃y,y=z4:=⟨_,rfl⟩
  rw[<-hy4]
  have HC:Hid (Cfg.Ok ⟨y0,y1,y2,y3,y4,y5,y6⟩):=by
    show Cfg.Ok _
    simp only[Cfg.Ok]
    omega
  clear hy0 hy1 hy2 hy3 hy4 hy5 hy6 b0 b1 b2 b3 b4 b5 b6
  have fr:∀i,W.frozen? ⟨w.heap.size+1,i,none⟩=false:=λi=>HB2.out.fr i
  have d0:=HB2.out.c 0 (.int .i64 0)
  have d1:=HB2.out.c 1 (.int .i64 0)
  have d2:=HB2.out.c 2 (.int .i64 0)
  have d3:=HB2.out.c 3 (.int .i64 0)
  have d4:=HB2.out.c 4 (.int .i64 0)
  have d5:=HB2.out.c 5 (.int .i64 0)
  have d6:=HB2.out.c 6 (.int .i64 0)
  clear c0 c1 c2 c3 c4 c5 c6
  go_wp2_with fail
  have BW:=Bx.drewd (((((((HB2.out.set 0 (.int .i64 y0)).set 1 (.int .i64 y1)).set 2 (.int .i64 y2)).set 3 (.int .i64 y3)).set 4 (.int .i64 y4)).set 5 (.int .i64 y5)).set 6 (.int .i64 y6))
  simp only[List.setIfInBounds_toArray,List.set_cons_zero,List.set_cons_succ] at BW
  have HW:=drew_below (.one _ 1) (below_set (below_set (below_set (below_set (below_set (below_set (below_set hbW (Nat.le_succ _) 0 (.int .i64 y0)) (Nat.le_succ _) 1 (.int .i64 y1)) (Nat.le_succ _) 2 (.int .i64 y2)) (Nat.le_succ _) 3 (.int .i64 y3)) (Nat.le_succ _) 4 (.int .i64 y4)) (Nat.le_succ _) 5 (.int .i64 y5)) (Nat.le_succ _) 6 (.int .i64 y6))
  have eW:(((((((W.setCell ⟨w.heap.size+1,0,none⟩ (.int .i64 y0)).setCell ⟨w.heap.size+1,1,none⟩ (.int .i64 y1)).setCell ⟨w.heap.size+1,2,none⟩ (.int .i64 y2)).setCell ⟨w.heap.size+1,3,none⟩ (.int .i64 y3)).setCell ⟨w.heap.size+1,4,none⟩ (.int .i64 y4)).setCell ⟨w.heap.size+1,5,none⟩ (.int .i64 y5)).setCell ⟨w.heap.size+1,6,none⟩ (.int .i64 y6)).drew=(((((((W.setCell ⟨w.heap.size+1,0,none⟩ (.int .i64 y0)).setCell ⟨w.heap.size+1,1,none⟩ (.int .i64 y1)).setCell ⟨w.heap.size+1,2,none⟩ (.int .i64 y2)).setCell ⟨w.heap.size+1,3,none⟩ (.int .i64 y3)).setCell ⟨w.heap.size+1,4,none⟩ (.int .i64 y4)).setCell ⟨w.heap.size+1,5,none⟩ (.int .i64 y5)).setCell ⟨w.heap.size+1,6,none⟩ (.int .i64 y6)).drewN 1:=rfl
  rw[<-eW] at HW
  clear eW
  generalize (((((((W.setCell ⟨w.heap.size+1,0,none⟩ (.int .i64 y0)).setCell ⟨w.heap.size+1,1,none⟩ (.int .i64 y1)).setCell ⟨w.heap.size+1,2,none⟩ (.int .i64 y2)).setCell ⟨w.heap.size+1,3,none⟩ (.int .i64 y3)).setCell ⟨w.heap.size+1,4,none⟩ (.int .i64 y4)).setCell ⟨w.heap.size+1,5,none⟩ (.int .i64 y5)).setCell ⟨w.heap.size+1,6,none⟩ (.int .i64 y6)).drew=V at *
  have f0:=BW.c 0 (.int .i64 y0)
  have f1:=BW.c 1 (.int .i64 y1)
  have f2:=BW.c 2 (.int .i64 y2)
  have f3:=BW.c 3 (.int .i64 y3)
  have f4:=BW.c 4 (.int .i64 y4)
  have f5:=BW.c 5 (.int .i64 y5)
  have f6:=BW.c 6 (.int .i64 y6)
  exact bodyPost_ret (v:=.agg #[.int .i64 y0,.int .i64 y1,.int .i64 y2,.int .i64 y3,.int .i64 y4,.int .i64 y5,.int .i64 y6]) (by simp[results,results17,go_sem,f0,f1,f2,f3,f4,f5,f6]) rfl ⟨⟨⟨y0,y1,y2,y3,y4,y5,y6⟩,HC.out,rfl⟩,HW⟩
end Go.Proofs.YtgamgomepdfgdaaGreat
