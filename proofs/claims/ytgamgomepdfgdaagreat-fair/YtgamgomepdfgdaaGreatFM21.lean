import Derived.Test.YtgamgomepdfgdaaGreatFM19
import Derived.Test.YtgamgomepdfgdaaGreatFM11
import Derived.Test.YtgamgomepdfgdaaGreatFM20
set_option maxRecDepth 100000
set_option maxHeartbeats 8000000
namespace Go.Proofs.YtgamgomepdfgdaaGreat
open Go.RowKit Go.Proofs.Tryz
theorem run_append_slt {P:Program}(w:World)(t ty e:TypeId)(i:TypeInfo)(z:Value)(size bytes:Nat)(ht:P.underlying t=some (.slice e))(hi:P.info? e=some i)(hz:i.zero=some z)(hsize:i.size=size)(hby:i.bytes=bytes)(hzs:z.cells.size=size)(hsz:0<size)(v:Value)(n:Nat)(xs:List Value)(hown:Sl w e size v n xs)(a:Addr)(m c:Nat)(news:List Value)(hl:news.length=m*size)(hnews:∀j u,news[j]? =some u->w.cell? (a.add j)=some u)(h1:∀u∈news,u.oneCell'=true)(hm:0<m)(h63:n+m<=maxLen)(hbytes:(n+m)*bytes<=140737488355328):
    ∃v' w',(Builtin.append_ #[t,t] ty #[v,.slice (some a) m c]).run P w=.ok v' w'/\Sl w' e size v' (n+m) (xs++news)/\((∃b cap,v=.slice b n cap/\v'=.slice b (n+m) cap/\w.grownBy w' v.ownBlock)\/(w.grownBy w' none/\∃g,v'.ownBlock=some g/\w.heap.size<=g)):=by
  have fresh:∀(v':Value) (w':World),w'.ownsRow w.heap.size e size v' (n+m) (xs++news)->∃g,v'.ownBlock=some g/\w.heap.size<=g:=λv' w' r=>by
    rcases r.2 with ⟨_,h0⟩|⟨g',cap',cur',rfl,hb,_⟩
    · omega
    · exact⟨g',rfl,hb⟩
  rcases hown.2 with ⟨rfl,rfl⟩|⟨g,off,cap,cur,rfl,hg,hnc,hcm,hcs,hr⟩
  · obtain rfl:xs=[]:=List.eq_nil_of_length_eq_zero (by simpa using hown.1)
    obtain⟨v',w',r,r1,r2,_,_⟩:=run_append_own_at (P:=P) w w.heap.size t ty e i z size bytes ht hi hz hsize hby hzs hsz (.slice none 0 0) 0 [] (World.ownsRow_nil w _ e size) a m c news hl hnews h1 h63 hbytes (Nat.le_refl _)
    exact⟨v',w',r,Sl.of_row r1,.inr ⟨r2,fresh v' w' r1⟩⟩
  · by_cases hroom:n+m<=cap
    · obtain⟨v',w',r,r1,r2,_⟩:=run_append_sl (P:=P) w t ty e i z size bytes ht hi hz hsize hby hzs hsz _ n xs hown a m c news hl hnews h1 h63 hbytes
      subst hsize
      have hfit:off+n*i.size+news.length<=cur.size:=by
        have:(n+m)*i.size<=cap*i.size:=Nat.mul_le_mul_right _ hroom
        rw[Nat.add_mul] at this
        omega
      have hf:=run_firstCells_some (P:=P) w i.size m a m c news hl hnews
      have hst:=run_storeCells_at P g (off+n*i.size) e news 0 cur w hg (by simpa using hfit) h1
      simp only[Nat.add_zero] at hst
      have hrun:(Builtin.append_ #[t,t] ty #[.slice (some ⟨g,off,none⟩) n cap,.slice (some a) m c]).run P w=.ok (.slice (some ⟨g,off,none⟩) (n+m) cap) (w.setRow g (cur.toList.take (off+n*i.size)++news++cur.toList.drop (off+n*i.size+news.length)).toArray):=by
        simp[Builtin.append_,run_underlying ht,sizeOf,typeInfo,hi,Builtin.lenOf,hroom,hf,Addr.add_lit,hst]
      rw[hrun] at r
      injection r with e1 e2
      subst e1;subst e2
      exact⟨_,_,hrun,r1,.inl ⟨_,_,rfl,rfl,r2⟩⟩
    · obtain⟨v',w',r,r1,r2⟩:=run_append_arg_grows (P:=P) w t ty e i z size bytes ht hi hz hsize hby hzs hsz ⟨g,off,none⟩ n cap xs hown.1 (λj u hu=>by
        have:(⟨g,off,none⟩:Addr).add j=⟨g,off+j,none⟩:=by
          unfold Addr.add
          by_cases h:j=0
          · subst h;simp
          · simp[h]
        rw[this];exact hown.cell hu) a m c news hl hnews (by omega) h63 hbytes
      exact⟨v',w',r,Sl.of_row r1,.inr ⟨r2,fresh v' w' r1⟩⟩
theorem wpList_append_slt {P:Program}(w:World){ops:Array Oper}{rest:List Oper}{o:Oper}{a:Act}{Q:Exit->Act->World->Prop}(hgd:o.guard=none)(s x:Operand)(t:TypeId)(ho:o.op=.call {callee:=.builtin .append,args:=#[s,x],argTypes:=#[t,t]})(e:TypeId)(i:TypeInfo)(z:Value)(size bytes:Nat)(ht:P.underlying t=some (.slice e))(hi:P.info? e=some i)(hz:i.zero=some z)(hsize:i.size=size)(hby:i.bytes=bytes)(hzs:z.cells.size=size)(hsz:0<size)(v:Value)(n:Nat)(xs:List Value)(hs:a.eval s=v)(hown:Sl w e size v n xs)(ad:Addr)(m c:Nat)(news:List Value)(hx:a.eval x=.slice (some ad) m c)(hl:news.length=m*size)(hnews:∀j u,news[j]? =some u->w.cell? (ad.add j)=some u)(h1:∀u∈news,u.oneCell'=true)(hm:0<m)(h63:n+m<=maxLen)(hbytes:(n+m)*bytes<=140737488355328)(h:∀v' w',Sl w' e size v' (n+m) (xs++news)->((∃b cap,v=.slice b n cap/\v'=.slice b (n+m) cap/\w.grownBy w' v.ownBlock)\/(w.grownBy w' none/\∃g,v'.ownBlock=some g/\w.heap.size<=g))->wpList P ops Q rest (a.put o.dst v') w'):wpList P ops Q (o::rest) a w:=by
  refine wpList_plain hgd λK hK=>?_
  obtain⟨v',w',hr,h2,h3⟩:=run_append_slt (P:=P) w t o.type e i z size bytes ht hi hz hsize hby hzs hsz v n xs hown ad m c news hl hnews h1 hm h63 hbytes
  unfold Oper.wp execOp
  simp only[ho,resolve,invoke,builtin,Sem.run_bind,Sem.run_pure,Result.andThen_ok,List.map_toArray,List.map_cons,List.map_nil,hs,hx,hr]
  exact hK _ _ (h v' w' h2 h3)
abbrev En:=Value×Nat×Nat
def cN (r:En):List Value:=[r.1,.int .i64 r.2.2]
def Moved (w w':World)(v v':Value)(n m:Nat):Prop:=(∃b cap,v=.slice b n cap/\v'=.slice b (n+m) cap/\w.grownBy w' v.ownBlock)\/(w.grownBy w' none/\∃g,v'.ownBlock=some g/\w.heap.size<=g)
abbrev Kw:=Kn×Value
abbrev Ew:=Eo×Value×Value
def cKn (y:Kw):List Value:=[.int .i64 y.1.id,.int .i64 y.1.kind,y.2]
def cEo (y:Ew):List Value:=[.int .i64 y.1.num,.int .i64 y.1.til,y.2.1,y.2.2,.int .i64 y.1.how,.int .i64 y.1.held]
structure Pv where
  kv:Value
  jv:Value
  tv:Value
  lv:Value
  ks:List Kw
  es:List Ew
def plC (xb:Nat)(c:Cfg)(kv jv tv lv:Value)(number now:Nat):Array Value:=#[.pointer (some ⟨xb,0,none⟩),.int .i64 c.lanes,.int .i64 c.age,.int .i64 c.batch,.int .i64 c.window,.int .i64 c.retries,.int .i64 c.deadline,.int .i64 c.queue,kv,jv,tv,lv,.int .i64 number,.int .i64 now]
structure PlIs (w:World)(R V:Nat->Prop)(pb xb:Nat)(c:Cfg)(p:Pe)(v:Pv):Prop where
  bx:Bx w pb 58 (plC xb c v.kv v.jv v.tv v.lv p.number p.now)
  ks:v.ks.map Prod.fst=p.known
  es:v.es.map Prod.fst=p.jobs
  kr:Sl w 53 3 v.kv v.ks.length (v.ks.flatMap cKn)
  er:Sl w 126 6 v.jv v.es.length (v.es.flatMap cEo)
  ke:∀y∈v.ks,EditsAt w y.2 y.1.es/\∀g,y.2.ownBlock=some g->R g
  ei:∀y∈v.es,Sl w 3 1 y.2.1 y.1.ids.length (y.1.ids.map cI)/\∀g,y.2.1.ownBlock=some g->R g
  et:∀y∈v.es,FilesAt w y.2.2 y.1.tree/\∀g,y.2.2.ownBlock=some g->R g
  tr:FilesAt w v.tv p.tip/\∀g,v.tv.ownBlock=some g->R g
  lr:Sl w 3 1 v.lv p.landed.length (p.landed.map cI)
  vs:V pb/\(∀g,v.kv.ownBlock=some g->V g)/\(∀g,v.jv.ownBlock=some g->V g)/\∀g,v.lv.ownBlock=some g->V g
  dis:∀k,R k->¬V k
  lt:∀k,R k\/V k->k<w.heap.size
theorem PlIs.kept {w w':World}{R V:Nat->Prop}{pb xb:Nat}{c:Cfg}{p:Pe}{v:Pv}(h:PlIs w R V pb xb c p v)(hs:w.heap.size<=w'.heap.size)(hk:∀k,R k\/V k->w'.heap[k]? =w.heap[k]?):PlIs w' R V pb xb c p v:=
  ⟨(hk pb (.inr h.vs.1)).trans h.bx,h.ks,h.es,h.kr.kept λg hg=>hk g (.inr (h.vs.2.1 g hg)),h.er.kept λg hg=>hk g (.inr (h.vs.2.2.1 g hg)),λy hy=>⟨(h.ke y hy).1.kept hs λk e _=>hk k (.inl ((h.ke y hy).2 k e)),(h.ke y hy).2⟩,
    λy hy=>⟨(h.ei y hy).1.kept λg hg=>hk g (.inl ((h.ei y hy).2 g hg)),(h.ei y hy).2⟩,λy hy=>⟨(h.et y hy).1.kept hs λk e _=>hk k (.inl ((h.et y hy).2 k e)),(h.et y hy).2⟩,
    ⟨h.tr.1.kept hs λk e _=>hk k (.inl (h.tr.2 k e)),h.tr.2⟩,h.lr.kept λg hg=>hk g (.inr (h.vs.2.2.2 g hg)),h.vs,h.dis,λk hR=>Nat.lt_of_lt_of_le (h.lt k hR) hs⟩
theorem PlIs.later {w w':World}{R V:Nat->Prop}{pb xb:Nat}{c:Cfg}{p:Pe}{v:Pv}(h:PlIs w R V pb xb c p v)(hb:Below w.heap.size w w'):PlIs w' R V pb xb c p v:=h.kept hb.size λk hk=>hb.block k (h.lt k hk)
theorem PlIs.only {w w':World}{R V S:Nat->Prop}{pb xb:Nat}{c:Cfg}{p:Pe}{v:Pv}(h:PlIs w R V pb xb c p v)(hO:Only w w' S)(hn:∀k,R k\/V k->¬S k):PlIs w' R V pb xb c p v:=h.kept hO.size λk hk=>hO.block k (h.lt k hk) (hn k hk)
theorem flat_at {α:Type}(f:α->List Value)(n:Nat)(hf:∀x,(f x).length=n):∀(l:List α) (i j:Nat) (hi:i<l.length) (u:Value),(f l[i])[j]? =some u->(l.flatMap f)[i*n+j]? =some u
  |[],_,_,hi,_,_=>absurd hi (Nat.not_lt_zero _)
  |x::l,0,j,_,u,hu=>by
    rw[List.flatMap_cons,List.getElem?_append_left]
    · simpa using hu
    · have h1:j<(f x).length:=(List.getElem?_eq_some_iff.1 hu).1
      simpa using h1
  |x::l,i+1,j,hi,u,hu=>by
    have ih:=flat_at f n hf l i j (by simpa using hi) u hu
    rw[List.flatMap_cons,List.getElem?_append_right]
    · rw[hf,show (i+1)*n+j-n=i*n+j by rw[Nat.add_mul,Nat.one_mul];omega]
      exact ih
    · rw[hf,Nat.add_mul,Nat.one_mul];omega
theorem Sl.at_ {α:Type}{f:α->List Value}{n:Nat}(hf:∀x,(f x).length=n){w:World}{e:TypeId}{g off cap:Nat}{l:List α}(h:Sl w e n (.slice (some ⟨g,off,none⟩) l.length cap) l.length (l.flatMap f)){i:Nat}(hi:i<l.length)(j:Nat){u:Value}(hu:(f l[i])[j]? =some u):w.cell? ⟨g,off+i*n+j,none⟩=some u:=by
  have:=h.cell (flat_at f n hf l i j hi u hu)
  rwa [<-Nat.add_assoc] at this
def FindRes (e:Ending)(K:List Kn)(id:Int):Prop:=(∃(i:Nat) (k:Kn),K[i]? =some k/\(k.id:Int)=id/\e=.returned (.int .i64 i))\/((∀k∈K,(k.id:Int)≠id)/\e=.returned (.int .i64 (-1)))
theorem pl_find (R V:Nat->Prop)(pb xb:Nat)(c:Cfg)(p:Pe)(v:Pv)(id:Int)(w:World)(h:PlIs w R V pb xb c p v)(hn:p.known.length<1099511627776):
    Calls prog 25 #[.pointer (some ⟨pb,0,none⟩),.int .i64 id] w λe w'=>FindRes e p.known id/\w'=w:=by
  have hl:v.ks.length=p.known.length:=by rw[<-h.ks,List.length_map]
  have hc:w.cell? ⟨pb,8,none⟩=some v.kv:=h.bx.cell (i:=8) rfl
  have hat:∀i (hi:i<v.ks.length),p.known[i]? =some v.ks[i].1:=λi hi=>by rw[<-h.ks,List.getElem?_map,List.getElem?_eq_getElem hi];rfl
  have Hall:Hid (∀k∈p.known,∃i,∃hi:i<v.ks.length,v.ks[i].1=k):=λk hk=>by
    rw[<-h.ks] at hk
    obtain⟨y,hy,rfl⟩:=List.mem_map.1 hk
    obtain⟨i,hi,rfl⟩:=List.mem_iff_getElem.1 hy
    exact⟨i,hi,rfl⟩
  have hr:=h.kr
  rw[<-hl] at hn
  obtain⟨ka,kcap,ek⟩:=hr.form
  have Hat:Hid (∀i (hi:i<v.ks.length),p.known[i]? =some v.ks[i].1):=hat
  rw[ek] at hc hr
  clear h hl hat
  by_cases h0:v.ks.length=0
  · have hno:Hid (∀k∈p.known,(k.id:Int)≠id):=λk hk=>by
      obtain⟨i,hi,_⟩:=Hall.out k hk
      omega
    rw[h0] at hc
    clear Hall Hat hr ek hn
    go_enter func25,ntmps25
    go_wp2
    go_loop [5] (λi=>i=.int .i64 0) (λ_=>0)
    case atStart=>rfl
    case round=>
      subst hrel
      go_wp2
      go_ret
      exact⟨.inr ⟨hno.out,rfl⟩,rfl⟩
  · obtain⟨g,off,cap,e1,_⟩:=hr.addr (by omega)
    cases e1
    have hcell:∀i (hi:i<v.ks.length),w.cell? ⟨g,off+i*3,none⟩=some (.int .i64 v.ks[i].1.id):=λi hi=>hr.at_ (f:=cKn) (λ_=>rfl) hi 0 rfl
    clear hr ek
    go_enter func25,ntmps25
    go_wp2
    go_loop [5] (λi=>∃k:Nat,k<=v.ks.length/\i=.int .i64 k/\Hid (∀j (hj:j<v.ks.length),j<k->(v.ks[j].1.id:Int)≠id)) (λi=>v.ks.length-(intOf i).toNat)
    case atStart=>exact⟨0,Nat.zero_le _,rfl,λj _ h=>absurd h (Nat.not_lt_zero j)⟩
    case round=>
      obtain⟨k,hk,rfl,Hb⟩:=hrel
      by_cases hlt:k<v.ks.length
      · have hci:=hcell k hlt
        have Hk:=Hat.out k hlt
        have H1:Hid (((v.ks[k].1.id:Int)==id)=true->∃(i:Nat) (y:Kn),p.known[i]? =some y/\(y.id:Int)=id/\(Ending.returned (.int .i64 k):Ending)=.returned (.int .i64 i)):=λh=>⟨k,_,Hk,by simpa using h,rfl⟩
        have H2:Hid (((v.ks[k].1.id:Int)==id)=false->∀j (hj:j<v.ks.length),j<k+1->(v.ks[j].1.id:Int)≠id):=λh j hj hjk=>by
          by_cases e:j=k
          · subst e;simpa using h
          · exact Hb.out j hj (by omega)
        clear hcell Hk Hb Hall Hat
        generalize (v.ks[k].1.id:Int)=q at hci H1 H2
        go_wp2
        · go_ret
          exact⟨.inl (H1.out ‹_›),rfl⟩
        · exact⟨⟨k+1,hlt,by go_num,H2.out ‹_›⟩,by simp[intOf];omega⟩
      · have hno:Hid (∀y∈p.known,(y.id:Int)≠id):=λy hy=>by
          obtain⟨i,hi,rfl⟩:=Hall.out y hy
          exact Hb.out i hi (by omega)
        clear hcell Hall Hat Hb
        go_wp2
        go_ret
        exact⟨.inr ⟨hno.out,rfl⟩,rfl⟩
theorem failP_off {id:Nat}{T:List Fl}{e:Eo}(h:((e.how:Int)==2)=false):failP id T e=false:=by
  unfold failP
  have:(e.how==2)=false:=by
    rw[beq_eq_false_iff_ne] at h ⊢
    omega
  rw[this];rfl
theorem failP_far {id:Nat}{T:List Fl}{e:Eo}(h:alikeL e.tree T=false):failP id T e=false:=by
  unfold failP
  rw[h,Bool.and_false,Bool.false_and]
theorem failP_nil {id:Nat}{T:List Fl}{e:Eo}(h:e.ids.length=0):failP id T e=false:=by
  unfold failP
  rw[List.eq_nil_of_length_eq_zero h]
  simp
theorem failP_last {id:Nat}{T:List Fl}{e:Eo}(h:((e.how:Int)==2)=true)(h2:alikeL e.tree T=true)(h3:0<e.ids.length):failP id T e=(((e.ids[e.ids.length-1]:Nat):Int)==(id:Int)):=by
  unfold failP
  have:(e.how==2)=true:=by
    rw[beq_iff_eq] at h ⊢
    omega
  rw[this,h2,Bool.true_and,Bool.true_and,List.getLast?_eq_getElem?,List.getElem?_eq_getElem (by omega)]
  rw[Bool.eq_iff_iff,beq_iff_eq,beq_iff_eq]
  constructor
  · intro h;injection h with h;rw[h]
  · intro h;rw[Int.ofNat.inj h]
theorem failN_snoc {js:List Eo}{id:Nat}{T:List Fl}{k:Nat}(hk:k<js.length):failN (js.take (k+1)) id T=failN (js.take k) id T+if failP id T js[k] then 1 else 0:=by
  unfold failN
  rw[List.take_succ_eq_append_getElem hk,List.countP_append,List.countP_singleton]
theorem pl_failed (R V:Nat->Prop)(pb xb:Nat)(c:Cfg)(p:Pe)(v:Pv)(id:Nat)(T:List Fl)(tv:Value)(w:World)(h:PlIs w R V pb xb c p v)(hT:FilesAt w tv T)(hn:p.jobs.length<1099511627776)(hfl:∀e∈p.jobs,e.tree.length<8796093022208/\e.ids.length<1099511627776):
    Calls prog 124 #[.pointer (some ⟨pb,0,none⟩),.int .i64 id,tv] w λe w'=>e=.returned (.int .i64 (failN p.jobs id T))/\Below w.heap.size w w':=by
  have hl:v.es.length=p.jobs.length:=by rw[<-h.es,List.length_map]
  obtain⟨ja,jcap,ej⟩:=h.er.form
  have hr:=h.er
  have hc:w.cell? ⟨pb,9,none⟩=some v.jv:=h.bx.cell (i:=9) rfl
  rw[ej] at hc hr
  rw[<-hl] at hn
  have Hh:Hid (PlIs w R V pb xb c p v):=h
  by_cases h0:v.es.length=0
  · have hres:Hid (failN p.jobs id T=0):=by
      show failN p.jobs id T=0
      rw[List.eq_nil_of_length_eq_zero (hl.symm.trans h0)];rfl
    rw[h0] at hc
    clear Hh hr ej hl hn hfl hT h
    go_enter func124,ntmps124
    go_wp2
    go_loop [7,8] (λn i=>i=.int .i64 0/\n=.int .i64 0) (λ_ _=>0)
    case atStart=>exact⟨rfl,rfl⟩
    case round=>
      obtain⟨rfl,rfl⟩:=hrel
      go_wp2
      go_ret
      rw[hres.out]
      exact⟨rfl,Below.refl _ _⟩
  · obtain⟨g,off,cap,e1,_⟩:=hr.addr (by omega)
    cases e1
    have hjv:v.jv=.slice (some ⟨g,off,none⟩) v.es.length jcap:=ej
    have Hl:Hid (v.es.length=p.jobs.length):=hl
    have Hat:Hid (∀i (hi:i<v.es.length),∃hi':i<p.jobs.length,v.es[i].1=p.jobs[i]):=λi hi=>⟨hl▸hi,by
      have:(v.es.map Prod.fst)[i]'(by rw[List.length_map];exact hi)=p.jobs[i]'(hl▸hi):=by simp only[h.es]
      rw[<-this,List.getElem_map]⟩
    have Hfl:Hid (∀e∈p.jobs,e.tree.length<8796093022208/\e.ids.length<1099511627776):=hfl
    have Hjv:Hid (v.jv=.slice (some ⟨g,off,none⟩) v.es.length jcap):=hjv
    clear hr ej hjv hl hfl h
    go_enter func124,ntmps124
    go_wp2
    go_loopw [7,8] (λn i wr=>∃k:Nat,k<=v.es.length/\i=.int .i64 k/\(∃m:Nat,m<=k/\n=.int .i64 m/\Hid (failN (p.jobs.take k) id T=m))/\Below w.heap.size w wr) (λ_ i _=>v.es.length-(intOf i).toNat)
    case atStart=>exact⟨0,Nat.zero_le _,rfl,⟨0,Nat.le_refl _,rfl,rfl⟩,Below.refl _ _⟩
    case round=>
      obtain⟨k,hk,rfl,⟨m,hmk,rfl,Hm⟩,hb⟩:=hrel
      have hP:=Hh.out.later hb
      have hc9:wr.cell? ⟨pb,9,none⟩=some v.jv:=hP.bx.cell (i:=9) rfl
      have her:=hP.er
      rw[Hjv.out] at hc9 her
      by_cases hlt:k<v.es.length
      · obtain⟨hlt',hek⟩:=Hat.out k hlt
        obtain⟨⟨y,iv,tv'⟩,hy⟩:∃z,z=v.es[k]:=⟨_,rfl⟩
        have c0:wr.cell? ⟨g,off+k*6,none⟩=some (.int .i64 y.num):=by have:=her.at_ (f:=cEo) (λ_=>rfl) hlt 0 rfl;rw[<-hy] at this;exact this
        have c1:wr.cell? ⟨g,off+k*6+1,none⟩=some (.int .i64 y.til):=by have:=her.at_ (f:=cEo) (λ_=>rfl) hlt 1 rfl;rw[<-hy] at this;exact this
        have c2:wr.cell? ⟨g,off+k*6+2,none⟩=some iv:=by have:=her.at_ (f:=cEo) (λ_=>rfl) hlt 2 rfl;rw[<-hy] at this;exact this
        have c3:wr.cell? ⟨g,off+k*6+3,none⟩=some tv':=by have:=her.at_ (f:=cEo) (λ_=>rfl) hlt 3 rfl;rw[<-hy] at this;exact this
        have c4:wr.cell? ⟨g,off+k*6+4,none⟩=some (.int .i64 y.how):=by have:=her.at_ (f:=cEo) (λ_=>rfl) hlt 4 rfl;rw[<-hy] at this;exact this
        have c5:wr.cell? ⟨g,off+k*6+5,none⟩=some (.int .i64 y.held):=by have:=her.at_ (f:=cEo) (λ_=>rfl) hlt 5 rfl;rw[<-hy] at this;exact this
        have hif:Sl wr 3 1 iv y.ids.length (y.ids.map cI):=by have:=(hP.ei _ (List.getElem_mem hlt)).1;rw[<-hy] at this;exact this
        have htf:FilesAt wr tv' y.tree:=by have:=(hP.et _ (List.getElem_mem hlt)).1;rw[<-hy] at this;exact this
        rw[<-hy] at hek
        have Htl:Hid (y.tree.length<8796093022208/\y.ids.length<1099511627776):=by have:=Hfl.out _ (List.getElem_mem hlt');rw[<-hek] at this;exact this
        have HT:Hid (FilesAt wr tv T):=hT.later hb
        have Hn:Hid (failN (p.jobs.take (k+1)) id T=m+if failP id T y then 1 else 0):=by show _=_;rw[failN_snoc hlt',Hm.out,<-hek]
        clear her hP hek hT Hfl Hat Hm Hh hy
        obtain⟨ia,icap,rfl⟩:=hif.form
        obtain⟨ta,tcap,rfl⟩:=htf.form
        have Hif:Hid (Sl wr 3 1 (.slice ia y.ids.length icap) y.ids.length (y.ids.map cI)):=hif
        have Htf:Hid (FilesAt wr (.slice ta y.tree.length tcap) y.tree):=htf
        clear hif htf
        go_wp2_with fail
        refine(alike_all y.tree T _ _ _ (Htf.out.later (below_new _ _)) (HT.out.later (below_new _ _)) Htl.out.1).mono ?_
        rintro _ w1 ⟨rfl,hdr⟩
        have hil:=Htl.out.2
        have hX:Bx w1 wr.heap.size 126 #[.int .i64 y.num,.int .i64 y.til,.slice ia y.ids.length icap,.slice ta y.tree.length tcap,.int .i64 y.how,.int .i64 y.held]:=(Bx.new _ _ _).later hdr.below
        have hb1:Below wr.heap.size wr w1:=(below_new _ _).trans (hdr.below.mono (by simp))
        have hb2:Below w.heap.size w w1:=hb.trans (hb1.mono hb.size)
        have d2:w1.cell? ⟨wr.heap.size,2,none⟩=some (.slice ia y.ids.length icap):=hX.cell (i:=2) rfl
        have d4:w1.cell? ⟨wr.heap.size,4,none⟩=some (.int .i64 y.how):=hX.cell (i:=4) rfl
        have Hif1:Hid (Sl w1 3 1 (.slice ia y.ids.length icap) y.ids.length (y.ids.map cI)):=Hif.out.later hb1
        have HB2:Hid (Below w.heap.size w w1):=hb2
        clear c0 c1 c2 c3 c4 c5 hc9 hX hdr hb1 hb2 hb Hif Htf Htl HT hc
        generalize wr.heap.size=q at d2 d4 ⊢
        cases hhow:((y.how:Int)==2)
        · have hz:=Hn.out
          rw[failP_off hhow] at hz
          have Hz:Hid (failN (p.jobs.take (k+1)) id T=m):=hz
          clear hz Hn
          go_wp2
          exact⟨⟨k+1,hlt,by go_num,⟨m,by omega,rfl,Hz⟩,HB2.out⟩,by simp[intOf];omega⟩
        cases hal:alikeL y.tree T
        · have hz:=Hn.out
          rw[failP_far hal] at hz
          have Hz:Hid (failN (p.jobs.take (k+1)) id T=m):=hz
          clear hz Hn
          go_wp2
          exact⟨⟨k+1,hlt,by go_num,⟨m,by omega,rfl,Hz⟩,HB2.out⟩,by simp[intOf];omega⟩
        by_cases hl0:y.ids.length=0
        · have hz:=Hn.out
          rw[failP_nil hl0] at hz
          have Hz:Hid (failN (p.jobs.take (k+1)) id T=m):=hz
          rw[hl0] at d2
          clear hz Hn hl0
          go_wp2
          exact⟨⟨k+1,hlt,by go_num,⟨m,by omega,rfl,Hz⟩,HB2.out⟩,by simp[intOf];omega⟩
        · obtain⟨gi,oi,ci,e1,hci,_⟩:=Hif1.out.addr (by omega)
          cases e1
          have hpos:0<y.ids.length:=by omega
          obtain⟨n,hnl⟩:∃n,y.ids.length=n+1:=⟨y.ids.length-1,by omega⟩
          have hlc:w1.cell? ⟨gi,oi+n,none⟩=some (.int .i64 (y.ids[n]:Nat)):=Hif1.out.cell (j:=n) (by rw[List.getElem?_map,List.getElem?_eq_getElem (by omega)];rfl)
          have hz:=Hn.out
          rw[failP_last hhow hal hpos] at hz
          have Hz:Hid (failN (p.jobs.take (k+1)) id T=m+if ((y.ids[n]:Nat):Int)==(id:Int) then 1 else 0):=by
            show _=_
            rw[hz]
            simp only[hnl,Nat.add_sub_cancel]
          generalize y.ids[n]=z at hlc Hz
          rw[hnl] at d2 hci hil
          clear hz Hn Hif1 hnl hpos hl0
          have H1:Hid (((z:Int)==(id:Int))=true->failN (p.jobs.take (k+1)) id T=m+1):=λh=>by rw[Hz.out,h];rfl
          have H2:Hid (((z:Int)==(id:Int))=false->failN (p.jobs.take (k+1)) id T=m):=λh=>by rw[Hz.out,h];rfl
          clear Hz
          cases hzi:((z:Int)==(id:Int))
          · have H3:Hid (failN (p.jobs.take (k+1)) id T=m):=H2.out hzi
            clear H1 H2
            go_wp2
            exact⟨⟨k+1,hlt,by go_num,⟨m,by omega,rfl,H3⟩,HB2.out⟩,by simp[intOf];omega⟩
          · have H3:Hid (failN (p.jobs.take (k+1)) id T=m+1):=H1.out hzi
            clear H1 H2
            go_wp2
            exact⟨⟨k+1,hlt,by go_num,⟨m+1,by omega,by go_num,H3⟩,HB2.out⟩,by simp[intOf];omega⟩
      · have hz:failN p.jobs id T=m:=by rw[<-Hm.out,List.take_of_length_le (by rw[<-Hl.out];omega)]
        have Hz:Hid (failN p.jobs id T=m):=hz
        clear her hz Hm hc
        go_wp2
        go_ret
        rw[Hz.out]
        exact⟨rfl,hb⟩
def Passed (js:List Eo)(n:Nat)(F:List Fl):Prop:=∃e∈js,e.num=n/\e.how=1/\alikeL e.tree F=true
theorem pl_evidence (R V:Nat->Prop)(pb xb:Nat)(c:Cfg)(p:Pe)(v:Pv)(num:Nat)(F:List Fl)(fv:Value)(w:World)(h:PlIs w R V pb xb c p v)(hF:FilesAt w fv F)(hn:p.jobs.length<1099511627776)(hfl:∀e∈p.jobs,e.tree.length<8796093022208/\e.ids.length<1099511627776)(hex:Passed p.jobs num F):
    Calls prog 68 #[.pointer (some ⟨pb,0,none⟩),.int .i64 num,fv] w λe w'=>e=.returned (.bool true)/\Below w.heap.size w w':=by
  have hl:v.es.length=p.jobs.length:=by rw[<-h.es,List.length_map]
  obtain⟨ja,jcap,ej⟩:=h.er.form
  have hr:=h.er
  have hc:w.cell? ⟨pb,9,none⟩=some v.jv:=h.bx.cell (i:=9) rfl
  rw[ej] at hc hr
  rw[<-hl] at hn
  have Hh:Hid (PlIs w R V pb xb c p v):=h
  obtain⟨e,he,he1,he2,he3⟩:=hex
  obtain⟨x,hx,hxe⟩:=List.mem_iff_getElem.1 he
  have hpos:0<v.es.length:=by omega
  obtain⟨g,off,cap,e1,_⟩:=hr.addr hpos
  cases e1
  have Hjv:Hid (v.jv=.slice (some ⟨g,off,none⟩) v.es.length jcap):=ej
  have Hat:Hid (∀i (hi:i<v.es.length),∃hi':i<p.jobs.length,v.es[i].1=p.jobs[i]):=λi hi=>⟨hl▸hi,by
    have:(v.es.map Prod.fst)[i]'(by rw[List.length_map];exact hi)=p.jobs[i]'(hl▸hi):=by simp only[h.es]
    rw[<-this,List.getElem_map]⟩
  have Hfl:Hid (∀e∈p.jobs,e.tree.length<8796093022208/\e.ids.length<1099511627776):=hfl
  have Hx:Hid (∃hx:x<p.jobs.length,p.jobs[x].num=num/\p.jobs[x].how=1/\alikeL p.jobs[x].tree F=true):=⟨hx,by rw[hxe];exact⟨he1,he2,he3⟩⟩
  have hxl:x<v.es.length:=by omega
  clear hr ej hl hfl h he hxe he1 he2 he3 hx hpos e
  go_enter func68,ntmps68
  go_wp2
  go_loopw [7] (λi wr=>∃k:Nat,k<=x/\i=.int .i64 k/\Below w.heap.size w wr) (λi _=>v.es.length-(intOf i).toNat)
  case atStart=>exact⟨0,Nat.zero_le _,rfl,Below.refl _ _⟩
  case round=>
    obtain⟨k,hk,rfl,hb⟩:=hrel
    have hP:=Hh.out.later hb
    have hc9:wr.cell? ⟨pb,9,none⟩=some v.jv:=hP.bx.cell (i:=9) rfl
    have her:=hP.er
    rw[Hjv.out] at hc9 her
    have hlt:k<v.es.length:=by omega
    obtain⟨hlt',hek⟩:=Hat.out k hlt
    obtain⟨⟨y,iv,tv'⟩,hy⟩:∃z,z=v.es[k]:=⟨_,rfl⟩
    have c0:wr.cell? ⟨g,off+k*6,none⟩=some (.int .i64 y.num):=by have:=her.at_ (f:=cEo) (λ_=>rfl) hlt 0 rfl;rw[<-hy] at this;exact this
    have c3:wr.cell? ⟨g,off+k*6+3,none⟩=some tv':=by have:=her.at_ (f:=cEo) (λ_=>rfl) hlt 3 rfl;rw[<-hy] at this;exact this
    have htf:FilesAt wr tv' y.tree:=by have:=(hP.et _ (List.getElem_mem hlt)).1;rw[<-hy] at this;exact this
    rw[<-hy] at hek
    have Htl:Hid (y.tree.length<8796093022208):=by have:=(Hfl.out _ (List.getElem_mem hlt')).1;rw[<-hek] at this;exact this
    have HF:Hid (FilesAt wr fv F):=hF.later hb
    have Hlast:Hid (k=x->y.num=num/\y.how=1/\alikeL y.tree F=true):=λe=>by
      subst e
      obtain⟨_,h⟩:=Hx.out
      rw[<-hek] at h
      exact h
    have Hc4:Hid (∀w1,Below wr.heap.size wr w1->w1.cell? ⟨pb,9,none⟩=some (.slice (some ⟨g,off,none⟩) v.es.length jcap)/\w1.cell? ⟨g,off+k*6,none⟩=some (.int .i64 y.num)/\w1.cell? ⟨g,off+k*6+4,none⟩=some (.int .i64 y.how)):=λw1 hb1=>by
      have hP1:=hP.later hb1
      have her1:=hP1.er
      have h9:w1.cell? ⟨pb,9,none⟩=some v.jv:=hP1.bx.cell (i:=9) rfl
      rw[Hjv.out] at her1 h9
      refine⟨h9,?_,?_⟩
      · have:=her1.at_ (f:=cEo) (λ_=>rfl) hlt 0 rfl;rw[<-hy] at this;exact this
      · have:=her1.at_ (f:=cEo) (λ_=>rfl) hlt 4 rfl;rw[<-hy] at this;exact this
    obtain⟨ta,tcap,rfl⟩:=htf.form
    have Htf:Hid (FilesAt wr (.slice ta y.tree.length tcap) y.tree):=htf
    clear her hP hek hF Hfl Hat Hh hy htf
    go_wp2_with fail
    refine(alike_all y.tree F _ _ _ Htf.out HF.out Htl.out).mono ?_
    rintro _ w1 ⟨rfl,hdr⟩
    obtain⟨d9,d0,d4⟩:=Hc4.out w1 hdr.below
    have HB2:Hid (Below w.heap.size w w1):=hb.trans (hdr.below.mono hb.size)
    clear c0 c3 hc9 hdr hb Htf HF Htl Hc4 hc
    by_cases hkx:k=x
    · obtain⟨a1,a2,a3⟩:=Hlast.out hkx
      have d0':w1.cell? ⟨g,off+k*6,none⟩=some (.int .i64 num):=by rw[d0,a1]
      have d4':w1.cell? ⟨g,off+k*6+4,none⟩=some (.int .i64 1):=by rw[d4,a2];rfl
      rw[a3]
      clear Hlast a1 a2 a3 d0 d4 hkx
      go_wp2
      go_ret
      exact⟨rfl,HB2.out⟩
    · clear Hlast
      cases h1:((y.num:Int)==(num:Int))
      · go_wp2
        exact⟨⟨k+1,by omega,by go_num,HB2.out⟩,by simp[intOf];omega⟩
      cases h2:((y.how:Int)==1)
      · go_wp2
        exact⟨⟨k+1,by omega,by go_num,HB2.out⟩,by simp[intOf];omega⟩
      cases h3:alikeL y.tree F
      · go_wp2
        exact⟨⟨k+1,by omega,by go_num,HB2.out⟩,by simp[intOf];omega⟩
      · go_wp2
        go_ret
        exact⟨rfl,HB2.out⟩
theorem flat_put_at {α:Type}{f:α->List Value}{n j:Nat}{u:Value}{φ:α->α}(hf:∀x,(f x).length=n)(hj:j<n)(hφ:∀x,f (φ x)=(f x).set j u):∀(l:List α) (i:Nat),i<l.length->(l.flatMap f).set (i*n+j) u=(l.modify i φ).flatMap f
  |[],_,hi=>absurd hi (Nat.not_lt_zero _)
  |x::l,0,_=>by
    rw[Nat.zero_mul,Nat.zero_add,List.modify_zero_cons,List.flatMap_cons,List.flatMap_cons,hφ,List.set_append_left _ _ (by rw[hf];exact hj)]
  |x::l,i+1,hi=>by
    rw[List.modify_succ_cons,List.flatMap_cons,List.flatMap_cons,List.set_append_right _ _ (by rw[hf,Nat.add_mul,Nat.one_mul];omega),hf,show (i+1)*n+j-n=i*n+j by rw[Nat.add_mul,Nat.one_mul];omega,flat_put_at hf hj hφ l i (by simpa using hi)]
theorem map_modify {α β:Type}(f:α->β)(g:α->α)(h:β->β)(e:∀x,f (g x)=h (f x)):∀(l:List α) (i:Nat),(l.modify i g).map f=(l.map f).modify i h
  |[],i=>by simp
  |x::l,0=>by simp[e]
  |x::l,i+1=>by
    rw[List.modify_succ_cons,List.map_cons,List.map_cons,List.modify_succ_cons,map_modify f g h e l i]
theorem mem_modify {α:Type}{f:α->α}{l:List α}{i:Nat}{y:α}(h:y∈l.modify i f):y∈l\/∃x∈l,y=f x:=by
  obtain⟨j,hj,rfl⟩:=List.mem_iff_getElem.1 h
  rw[List.getElem_modify]
  split
  · exact .inr ⟨_,List.getElem_mem _,rfl⟩
  · exact .inl (List.getElem_mem _)
theorem PlIs.ro {w w':World}{R V:Nat->Prop}{pb xb:Nat}{c:Cfg}{p:Pe}{v:Pv}{row:Option Nat}(h:PlIs w R V pb xb c p v)(hr:∀b,row=some b->¬R b)(hg:w.grownBy w' row):
    (∀y∈v.ks,EditsAt w' y.2 y.1.es/\∀g,y.2.ownBlock=some g->R g)/\(∀y∈v.es,Sl w' 3 1 y.2.1 y.1.ids.length (y.1.ids.map cI)/\∀g,y.2.1.ownBlock=some g->R g)/\(∀y∈v.es,FilesAt w' y.2.2 y.1.tree/\∀g,y.2.2.ownBlock=some g->R g)/\FilesAt w' v.tv p.tip/\∀g,v.tv.ownBlock=some g->R g:=by
  have ne:∀u:Value,(∀g,u.ownBlock=some g->R g)->u.ownBlock=none\/u.ownBlock≠row:=λu hu=>by
    cases e:u.ownBlock with
    |none=>exact .inl rfl
    |some g=>exact .inr λe'=>hr g e'.symm (hu g e)
  refine⟨λy hy=>?_,λy hy=>?_,λy hy=>?_,?_⟩
  · obtain⟨a,b⟩:=h.ke y hy
    exact⟨a.grown hg (ne _ b),b⟩
  · obtain⟨a,b⟩:=h.ei y hy
    exact⟨a.grown hg λg hg e=>hr g e (b g hg),b⟩
  · obtain⟨a,b⟩:=h.et y hy
    exact⟨a.grown hg (ne _ b),b⟩
  · obtain⟨a,b⟩:=h.tr
    exact⟨a.grown hg (ne _ b),b⟩
theorem PlIs.putNum {w:World}{R V:Nat->Prop}{pb xb:Nat}{c:Cfg}{p:Pe}{v:Pv}(h:PlIs w R V pb xb c p v)(n:Nat):PlIs (w.setCell ⟨pb,12,none⟩ (.int .i64 n)) R V pb xb c {p with number:=n} v:=by
  have hg:=grown_set w pb 12 (.int .i64 n)
  obtain⟨a1,a2,a3,a4⟩:=h.ro (λb e hR=>h.dis b hR (by cases e;exact h.vs.1)) hg
  exact⟨h.bx.set 12 _,h.ks,h.es,h.kr.grown hg λg hv e=>h.kr.ne h.bx (by decide) (by rw[hv];exact e.symm),h.er.grown hg λg hv e=>h.er.ne h.bx (by decide) (by rw[hv];exact e.symm),a1,a2,a3,a4,h.lr.grown hg λg hv e=>h.lr.ne h.bx (by decide) (by rw[hv];exact e.symm),h.vs,h.dis,λk hk=>by simpa using h.lt k hk⟩
theorem PlIs.putTip {w:World}{R V:Nat->Prop}{pb xb:Nat}{c:Cfg}{p:Pe}{v:Pv}(h:PlIs w R V pb xb c p v){tv:Value}{l:List Fl}(hf:FilesAt w tv l)(hn:∀g,tv.ownBlock=some g->¬V g/\g<w.heap.size):PlIs (w.setCell ⟨pb,10,none⟩ tv) (λk=>R k\/tv.ownBlock=some k) V pb xb c {p with tip:=l} {v with tv:=tv}:=by
  have hg:=grown_set w pb 10 tv
  obtain⟨a1,a2,a3,_⟩:=h.ro (λb e hR=>h.dis b hR (by cases e;exact h.vs.1)) hg
  refine⟨h.bx.set 10 _,h.ks,h.es,h.kr.grown hg λg hv e=>h.kr.ne h.bx (by decide) (by rw[hv];exact e.symm),h.er.grown hg λg hv e=>h.er.ne h.bx (by decide) (by rw[hv];exact e.symm),λy hy=>⟨(a1 y hy).1,λg hg=>.inl ((a1 y hy).2 g hg)⟩,λy hy=>⟨(a2 y hy).1,λg hg=>.inl ((a2 y hy).2 g hg)⟩,λy hy=>⟨(a3 y hy).1,λg hg=>.inl ((a3 y hy).2 g hg)⟩,⟨hf.grown hg ?_,λg hg=>.inr hg⟩,h.lr.grown hg λg hv e=>h.lr.ne h.bx (by decide) (by rw[hv];exact e.symm),h.vs,λk hk=>hk.elim (h.dis k) λe=>(hn k e).1,λk hk=>?_⟩
  · cases e:tv.ownBlock with
    |none=>exact .inl rfl
    |some g=>exact .inr λe'=>(hn g e).1 (by cases e';exact h.vs.1)
  · have:k<w.heap.size:=by
      rcases hk with (hk|hk)|hk
      · exact h.lt k (.inl hk)
      · exact(hn k hk).2
      · exact h.lt k (.inr hk)
    simpa using this
theorem PlIs.putKind {w:World}{R V:Nat->Prop}{pb xb:Nat}{c:Cfg}{p:Pe}{v:Pv}(h:PlIs w R V pb xb c p v){i g off cap:Nat}(hi:i<v.ks.length)(hv:v.kv=.slice (some ⟨g,off,none⟩) v.ks.length cap)(n:Nat):PlIs (w.setCell ⟨g,off+i*3+1,none⟩ (.int .i64 n)) R V pb xb c {p with known:=p.known.modify i λk=>k.put n} {v with ks:=v.ks.modify i λy=>(y.1.put n,y.2)}:=by
  have hg:=grown_set w g (off+i*3+1) (.int .i64 n)
  have hb:v.kv.ownBlock=some g:=by rw[hv];rfl
  obtain⟨a1,a2,a3,a4⟩:=h.ro (λb e hR=>h.dis b hR (by cases e;exact h.vs.2.1 g hb)) hg
  have hset:=h.kr
  rw[hv] at hset
  have hset:=hset.set (i*3+1) (.int .i64 n)
  rw[flat_put_at (f:=cKn) (n:=3) (j:=1) (u:=.int .i64 n) (φ:=λy:Kw=>(y.1.put n,y.2)) (λ_=>rfl) (by omega) (λ_=>rfl) v.ks i hi,<-Nat.add_assoc] at hset
  refine⟨h.bx.other (λe=>h.kr.ne h.bx (by decide) (by rw[hb,e])) _ _,?_,h.es,?_,h.er.grown hg λq hq e=>h.er.apart h.kr (by decide) hq (by rw[hb];exact e),λy hy=>?_,a2,a3,a4,h.lr.grown hg λq hq e=>h.lr.apart h.kr (by decide) hq (by rw[hb];exact e),h.vs,h.dis,λk hk=>by simpa using h.lt k hk⟩
  · show (v.ks.modify i _).map Prod.fst=p.known.modify i _
    rw[map_modify Prod.fst _ (λk=>k.put n) (λ_=>rfl),h.ks]
  · show Sl _ _ 3 v.kv (v.ks.modify i _).length _
    rw[List.length_modify,hv];exact hset
  · rcases mem_modify hy with hy|⟨x,hx,rfl⟩
    · exact a1 y hy
    · exact a1 x hx
def Eo.put (e:Eo)(n:Nat):Eo:={e with how:=n}
theorem PlIs.putHow {w:World}{R V:Nat->Prop}{pb xb:Nat}{c:Cfg}{p:Pe}{v:Pv}(h:PlIs w R V pb xb c p v){i g off cap:Nat}(hi:i<v.es.length)(hv:v.jv=.slice (some ⟨g,off,none⟩) v.es.length cap)(n:Nat):PlIs (w.setCell ⟨g,off+i*6+4,none⟩ (.int .i64 n)) R V pb xb c {p with jobs:=p.jobs.modify i λk=>k.put n} {v with es:=v.es.modify i λy=>(y.1.put n,y.2)}:=by
  have hg:=grown_set w g (off+i*6+4) (.int .i64 n)
  have hb:v.jv.ownBlock=some g:=by rw[hv];rfl
  obtain⟨a1,a2,a3,a4⟩:=h.ro (λb e hR=>h.dis b hR (by cases e;exact h.vs.2.2.1 g hb)) hg
  have hset:=h.er
  rw[hv] at hset
  have hset:=hset.set (i*6+4) (.int .i64 n)
  rw[flat_put_at (f:=cEo) (n:=6) (j:=4) (u:=.int .i64 n) (φ:=λy:Ew=>(y.1.put n,y.2)) (λ_=>rfl) (by omega) (λ_=>rfl) v.es i hi,<-Nat.add_assoc] at hset
  refine⟨h.bx.other (λe=>h.er.ne h.bx (by decide) (by rw[hb,e])) _ _,h.ks,?_,h.kr.grown hg λq hq e=>h.kr.apart h.er (by decide) hq (by rw[hb];exact e),?_,a1,λy hy=>?_,λy hy=>?_,a4,h.lr.grown hg λq hq e=>h.lr.apart h.er (by decide) hq (by rw[hb];exact e),h.vs,h.dis,λk hk=>by simpa using h.lt k hk⟩
  · show (v.es.modify i _).map Prod.fst=p.jobs.modify i _
    rw[map_modify Prod.fst _ (λk=>k.put n) (λ_=>rfl),h.es]
  · show Sl _ _ 6 v.jv (v.es.modify i _).length _
    rw[List.length_modify,hv];exact hset
  · rcases mem_modify hy with hy|⟨x,hx,rfl⟩
    · exact a2 y hy
    · exact a2 x hx
  · rcases mem_modify hy with hy|⟨x,hx,rfl⟩
    · exact a3 y hy
    · exact a3 x hx
theorem step_append_slt {P:Program}{ops:Array Oper}{o:Oper}{a:Act}{w:World}{K:Act->World->Prop}{Q:Exit->Act->World->Prop}{E:Prop}(hg:o.guard=none)(s x:Operand)(t:TypeId)(ho:o.op=Op.call {callee:=Callee.builtin Builtin.append,args:=#[s,x],argTypes:=#[t,t]})(e:TypeId)(i:TypeInfo)(z:Value)(size bytes:Nat)(ht:P.underlying t=some (.slice e))(hi:P.info? e=some i)(hz:i.zero=some z)(hsize:i.size=size)(hby:i.bytes=bytes)(hzs:z.cells.size=size)(hsz:0<size)(v:Value)(n:Nat)(xs:List Value)(hs:a.eval s=v)(hown:Sl w e size v n xs)(ad:Addr)(m c:Nat)(news:List Value)(hx:a.eval x=.slice (some ad) m c)(hl:news.length=m*size)(hnews:∀j u,news[j]? =some u->w.cell? (ad.add j)=some u)(h1:∀u∈news,u.oneCell'=true)(hm:0<m)(h63:n+m<=maxLen)(hbytes:(n+m)*bytes<=140737488355328)(hK:∀v' w',Sl w' e size v' (n+m) (xs++news)->Moved w w' v v' n m->K (a.put o.dst v') w'):
    if Region.wanted o (yielded ops a.tmps)=true then Oper.wp P o a w K Q else E:=by
  have hw:Region.wanted o (yielded ops a.tmps)=true:=by simp[Region.wanted,hg]
  rw[if_pos hw]
  obtain⟨v',w',hr,h2,h3⟩:=run_append_slt (P:=P) w t o.type e i z size bytes ht hi hz hsize hby hzs hsz v n xs hown ad m c news hl hnews h1 hm h63 hbytes
  unfold Oper.wp execOp
  simp only[ho,resolve,invoke,builtin,Sem.run_bind,Sem.run_pure,Result.andThen_ok,List.map_toArray,List.map_cons,List.map_nil,hs,hx,hr]
  exact hK v' w' h2 h3
theorem Moved.row {w w':World}{v v':Value}{n m:Nat}(h:Moved w w' v v' n m):∃row,w.grownBy w' row/\(∀b,row=some b->v.ownBlock=some b)/\∀g,v'.ownBlock=some g->v.ownBlock=some g\/w.heap.size<=g:=by
  rcases h with ⟨b,cap,rfl,rfl,hg⟩|⟨hg,g,hv,hle⟩
  · exact⟨_,hg,λ_ e=>e,λg e=>.inl (by cases b<;>exact e)⟩
  · exact⟨none,hg,λ_ e=>(by cases e),λg' e=>.inr (by rw[hv] at e;cases e;exact hle)⟩
theorem PlIs.roX {w w':World}{R V X:Nat->Prop}{pb xb:Nat}{c:Cfg}{p:Pe}{v:Pv}(h:PlIs w R V pb xb c p v)(hs:w.heap.size<=w'.heap.size)(hX:∀k,X k->V k)(hk:∀k,k<w.heap.size->¬X k->w'.heap[k]? =w.heap[k]?):
    (∀y∈v.ks,EditsAt w' y.2 y.1.es/\∀g,y.2.ownBlock=some g->R g)/\(∀y∈v.es,Sl w' 3 1 y.2.1 y.1.ids.length (y.1.ids.map cI)/\∀g,y.2.1.ownBlock=some g->R g)/\(∀y∈v.es,FilesAt w' y.2.2 y.1.tree/\∀g,y.2.2.ownBlock=some g->R g)/\FilesAt w' v.tv p.tip/\∀g,v.tv.ownBlock=some g->R g:=by
  have hR:∀k,R k->w'.heap[k]? =w.heap[k]? :=λk hR=>hk k (h.lt k (.inl hR)) λx=>h.dis k hR (hX k x)
  refine⟨λy hy=>?_,λy hy=>?_,λy hy=>?_,?_⟩
  · obtain⟨a,b⟩:=h.ke y hy
    exact⟨a.kept hs λk e _=>hR k (b k e),b⟩
  · obtain⟨a,b⟩:=h.ei y hy
    exact⟨a.kept λk e=>hR k (b k e),b⟩
  · obtain⟨a,b⟩:=h.et y hy
    exact⟨a.kept hs λk e _=>hR k (b k e),b⟩
  · obtain⟨a,b⟩:=h.tr
    exact⟨a.kept hs λk e _=>hR k (b k e),b⟩
theorem moved_keeps {w w':World}{pb i:Nat}{v v':Value}{n m:Nat}(h:Moved w w' v v' n m)(u:Value):w.heap.size<=(w'.setCell ⟨pb,i,none⟩ u).heap.size/\∀k,k<w.heap.size->¬(k=pb\/v.ownBlock=some k)->(w'.setCell ⟨pb,i,none⟩ u).heap[k]? =w.heap[k]? :=by
  obtain⟨row,hg,h1,_⟩:=h.row
  refine⟨by simpa using hg.size,λk hk hn=>?_⟩
  have h2:w'.heap[k]? =w.heap[k]? :=hg.block k hk λe=>hn (.inr (h1 k e.symm))
  rw[<-h2]
  exact(grown_set w' pb i u).block k (Nat.lt_of_lt_of_le hk hg.size) λe=>hn (.inl (by cases e;rfl))
theorem moved_only {w w':World}{V:Nat->Prop}{pb i:Nat}{v v':Value}{n m:Nat}(h:Moved w w' v v' n m)(hp:V pb)(hv:∀g,v.ownBlock=some g->V g)(u:Value):Only w (w'.setCell ⟨pb,i,none⟩ u) V:=by
  obtain⟨row,hg,h1,_⟩:=h.row
  exact Only.set (Only.of_grown hg λk e=>hv k (h1 k e)) (.inl hp)
theorem PlIs.addLand {w w':World}{R V:Nat->Prop}{pb xb:Nat}{c:Cfg}{p:Pe}{v:Pv}(h:PlIs w R V pb xb c p v){lv:Value}{id:Nat}(hS:Sl w' 3 1 lv (p.landed.length+1) (p.landed.map cI++[.int .i64 id]))(hM:Moved w w' v.lv lv p.landed.length 1):
    PlIs (w'.setCell ⟨pb,11,none⟩ lv) R (λk=>V k\/lv.ownBlock=some k) pb xb c {p with landed:=p.landed++[id]} {v with lv:=lv}/\(∀g,lv.ownBlock=some g->V g\/w.heap.size<=g)/\Only w (w'.setCell ⟨pb,11,none⟩ lv) V:=by
  obtain⟨row,hg,hr,hn⟩:=hM.row
  obtain⟨hs,hk⟩:=moved_keeps (pb:=pb) (i:=11) hM lv
  obtain⟨a1,a2,a3,a4⟩:=h.roX (X:=λk=>k=pb\/v.lv.ownBlock=some k) hs (λk hk=>hk.elim (λe=>e▸h.vs.1) (h.vs.2.2.2 k)) hk
  have hnew:∀g,lv.ownBlock=some g->V g\/w.heap.size<=g:=λg e=>(hn g e).imp (h.vs.2.2.2 g) λh=>h
  have hB:Bx w' pb 58 (plC xb c v.kv v.jv v.tv v.lv p.number p.now):=h.bx.grown hg λe=>h.lr.ne h.bx (by decide) (hr pb e.symm)
  have hL:Sl (w'.setCell ⟨pb,11,none⟩ lv) 3 1 lv (p.landed.length+1) (p.landed.map cI++[.int .i64 id]):=hS.grown (grown_set w' pb 11 lv) λg hg e=>hS.ne hB (by decide) (by rw[hg];exact e.symm)
  refine⟨⟨hB.set 11 _,h.ks,h.es,h.kr.kept λg hv=>hk g (h.kr.lt hv) λe=>e.elim (λe=>h.kr.ne h.bx (by decide) (e▸hv)) λe=>h.kr.apart h.lr (by decide) hv e,h.er.kept λg hv=>hk g (h.er.lt hv) λe=>e.elim (λe=>h.er.ne h.bx (by decide) (e▸hv)) λe=>h.er.apart h.lr (by decide) hv e,a1,a2,a3,a4,?_,⟨.inl h.vs.1,λg e=>.inl (h.vs.2.1 g e),λg e=>.inl (h.vs.2.2.1 g e),λg e=>.inr e⟩,λk hR hV=>?_,λk hk=>?_⟩,hnew,moved_only hM h.vs.1 h.vs.2.2.2 lv⟩
  · show Sl _ _ 1 lv (p.landed++[id]).length ((p.landed++[id]).map cI)
    rw[List.length_append,List.map_append];exact hL
  · rcases hV with hV|hV
    · exact h.dis k hR hV
    · rcases hnew k hV with hV|hV
      · exact h.dis k hR hV
      · exact absurd (h.lt k (.inl hR)) (by omega)
  · rcases hk with hk|hk|hk
    · exact Nat.lt_of_lt_of_le (h.lt k (.inl hk)) hs
    · exact Nat.lt_of_lt_of_le (h.lt k (.inr hk)) hs
    · exact hL.lt hk
theorem PlIs.addKn {w w':World}{R V:Nat->Prop}{pb xb:Nat}{c:Cfg}{p:Pe}{v:Pv}(h:PlIs w R V pb xb c p v){kv ev:Value}{k0:Kn}(hS:Sl w' 53 3 kv (v.ks.length+1) (v.ks.flatMap cKn++cKn (k0,ev)))(hM:Moved w w' v.kv kv v.ks.length 1)(he:EditsAt w ev k0.es)(hev:∀g,ev.ownBlock=some g->¬V g/\g<w.heap.size):
    PlIs (w'.setCell ⟨pb,8,none⟩ kv) (λk=>R k\/ev.ownBlock=some k) (λk=>V k\/kv.ownBlock=some k) pb xb c {p with known:=p.known++[k0]} {v with kv:=kv,ks:=v.ks++[(k0,ev)]}/\(∀g,kv.ownBlock=some g->V g\/w.heap.size<=g)/\Only w (w'.setCell ⟨pb,8,none⟩ kv) V:=by
  obtain⟨row,hg,hr,hn⟩:=hM.row
  obtain⟨hs,hk⟩:=moved_keeps (pb:=pb) (i:=8) hM kv
  have hX:∀k,(k=pb\/v.kv.ownBlock=some k)->V k:=λk hk=>hk.elim (λe=>e▸h.vs.1) (h.vs.2.1 k)
  obtain⟨a1,a2,a3,a4⟩:=h.roX (X:=λk=>k=pb\/v.kv.ownBlock=some k) hs hX hk
  have hnew:∀g,kv.ownBlock=some g->V g\/w.heap.size<=g:=λg e=>(hn g e).imp (h.vs.2.1 g) λh=>h
  have hB:Bx w' pb 58 (plC xb c v.kv v.jv v.tv v.lv p.number p.now):=h.bx.grown hg λe=>h.kr.ne h.bx (by decide) (hr pb e.symm)
  have hL:Sl (w'.setCell ⟨pb,8,none⟩ kv) 53 3 kv (v.ks.length+1) (v.ks.flatMap cKn++cKn (k0,ev)):=hS.grown (grown_set w' pb 8 kv) λg hg e=>hS.ne hB (by decide) (by rw[hg];exact e.symm)
  refine⟨⟨hB.set 8 _,?_,h.es,?_,h.er.kept λg hv=>hk g (h.er.lt hv) λe=>e.elim (λe=>h.er.ne h.bx (by decide) (e▸hv)) λe=>h.er.apart h.kr (by decide) hv e,λy hy=>?_,λy hy=>⟨(a2 y hy).1,λg e=>.inl ((a2 y hy).2 g e)⟩,λy hy=>⟨(a3 y hy).1,λg e=>.inl ((a3 y hy).2 g e)⟩,⟨a4.1,λg e=>.inl (a4.2 g e)⟩,h.lr.kept λg hv=>hk g (h.lr.lt hv) λe=>e.elim (λe=>h.lr.ne h.bx (by decide) (e▸hv)) λe=>h.lr.apart h.kr (by decide) hv e,⟨.inl h.vs.1,λg e=>.inr e,λg e=>.inl (h.vs.2.2.1 g e),λg e=>.inl (h.vs.2.2.2 g e)⟩,λk hR hV=>?_,λk hk=>?_⟩,hnew,moved_only hM h.vs.1 h.vs.2.1 kv⟩
  · show (v.ks++[(k0,ev)]).map Prod.fst=p.known++[k0]
    rw[List.map_append,h.ks];rfl
  · show Sl _ _ 3 kv (v.ks++[(k0,ev)]).length ((v.ks++[(k0,ev)]).flatMap cKn)
    rw[List.length_append,List.flatMap_append,List.flatMap_singleton];exact hL
  · rcases List.mem_append.1 hy with hy|hy
    · exact⟨(a1 y hy).1,λg e=>.inl ((a1 y hy).2 g e)⟩
    · obtain rfl:=List.mem_singleton.1 hy
      exact⟨he.kept hs λk e hlt=>hk k hlt λx=>(hev k e).1 (hX k x),λg e=>.inr e⟩
  · rcases hR with hR|hR
    · rcases hV with hV|hV
      · exact h.dis k hR hV
      · rcases hnew k hV with hV|hV
        · exact h.dis k hR hV
        · exact absurd (h.lt k (.inl hR)) (by omega)
    · rcases hV with hV|hV
      · exact(hev k hR).1 hV
      · rcases hnew k hV with hV|hV
        · exact(hev k hR).1 hV
        · exact absurd (hev k hR).2 (by omega)
  · rcases hk with (hk|hk)|hk|hk
    · exact Nat.lt_of_lt_of_le (h.lt k (.inl hk)) hs
    · exact Nat.lt_of_lt_of_le (hev k hk).2 hs
    · exact Nat.lt_of_lt_of_le (h.lt k (.inr hk)) hs
    · exact hL.lt hk
theorem PlIs.addJob {w w':World}{R V:Nat->Prop}{pb xb:Nat}{c:Cfg}{p:Pe}{v:Pv}(h:PlIs w R V pb xb c p v){jv iv tv:Value}{e0:Eo}(hS:Sl w' 126 6 jv (v.es.length+1) (v.es.flatMap cEo++cEo (e0,iv,tv)))(hM:Moved w w' v.jv jv v.es.length 1)(hi:Sl w 3 1 iv e0.ids.length (e0.ids.map cI))(hiv:∀g,iv.ownBlock=some g->¬V g)(ht:FilesAt w tv e0.tree)(htv:∀g,tv.ownBlock=some g->¬V g/\g<w.heap.size):
    PlIs (w'.setCell ⟨pb,9,none⟩ jv) (λk=>R k\/iv.ownBlock=some k\/tv.ownBlock=some k) (λk=>V k\/jv.ownBlock=some k) pb xb c {p with jobs:=p.jobs++[e0]} {v with jv:=jv,es:=v.es++[(e0,iv,tv)]}/\(∀g,jv.ownBlock=some g->V g\/w.heap.size<=g)/\Only w (w'.setCell ⟨pb,9,none⟩ jv) V:=by
  obtain⟨row,hg,hr,hn⟩:=hM.row
  obtain⟨hs,hk⟩:=moved_keeps (pb:=pb) (i:=9) hM jv
  have hX:∀k,(k=pb\/v.jv.ownBlock=some k)->V k:=λk hk=>hk.elim (λe=>e▸h.vs.1) (h.vs.2.2.1 k)
  obtain⟨a1,a2,a3,a4⟩:=h.roX (X:=λk=>k=pb\/v.jv.ownBlock=some k) hs hX hk
  have hnew:∀g,jv.ownBlock=some g->V g\/w.heap.size<=g:=λg e=>(hn g e).imp (h.vs.2.2.1 g) λh=>h
  have hB:Bx w' pb 58 (plC xb c v.kv v.jv v.tv v.lv p.number p.now):=h.bx.grown hg λe=>h.er.ne h.bx (by decide) (hr pb e.symm)
  have hL:Sl (w'.setCell ⟨pb,9,none⟩ jv) 126 6 jv (v.es.length+1) (v.es.flatMap cEo++cEo (e0,iv,tv)):=hS.grown (grown_set w' pb 9 jv) λg hg e=>hS.ne hB (by decide) (by rw[hg];exact e.symm)
  refine⟨⟨hB.set 9 _,h.ks,?_,h.kr.kept λg hv=>hk g (h.kr.lt hv) λe=>e.elim (λe=>h.kr.ne h.bx (by decide) (e▸hv)) λe=>h.kr.apart h.er (by decide) hv e,?_,λy hy=>⟨(a1 y hy).1,λg e=>.inl ((a1 y hy).2 g e)⟩,λy hy=>?_,λy hy=>?_,⟨a4.1,λg e=>.inl (a4.2 g e)⟩,h.lr.kept λg hv=>hk g (h.lr.lt hv) λe=>e.elim (λe=>h.lr.ne h.bx (by decide) (e▸hv)) λe=>h.lr.apart h.er (by decide) hv e,⟨.inl h.vs.1,λg e=>.inl (h.vs.2.1 g e),λg e=>.inr e,λg e=>.inl (h.vs.2.2.2 g e)⟩,λk hR hV=>?_,λk hk=>?_⟩,hnew,moved_only hM h.vs.1 h.vs.2.2.1 jv⟩
  · show (v.es++[(e0,iv,tv)]).map Prod.fst=p.jobs++[e0]
    rw[List.map_append,h.es];rfl
  · show Sl _ _ 6 jv (v.es++[(e0,iv,tv)]).length ((v.es++[(e0,iv,tv)]).flatMap cEo)
    rw[List.length_append,List.flatMap_append,List.flatMap_singleton];exact hL
  · rcases List.mem_append.1 hy with hy|hy
    · exact⟨(a2 y hy).1,λg e=>.inl ((a2 y hy).2 g e)⟩
    · obtain rfl:=List.mem_singleton.1 hy
      exact⟨hi.kept λk e=>hk k (hi.lt e) λx=>hiv k e (hX k x),λg e=>.inr (.inl e)⟩
  · rcases List.mem_append.1 hy with hy|hy
    · exact⟨(a3 y hy).1,λg e=>.inl ((a3 y hy).2 g e)⟩
    · obtain rfl:=List.mem_singleton.1 hy
      exact⟨ht.kept hs λk e hlt=>hk k hlt λx=>(htv k e).1 (hX k x),λg e=>.inr (.inr e)⟩
  · have hlt:k<w.heap.size/\¬V k:=by
      rcases hR with hR|hR|hR
      · exact⟨h.lt k (.inl hR),h.dis k hR⟩
      · exact⟨hi.lt hR,hiv k hR⟩
      · exact⟨(htv k hR).2,(htv k hR).1⟩
    rcases hV with hV|hV
    · exact hlt.2 hV
    · rcases hnew k hV with hV|hV
      · exact hlt.2 hV
      · omega
  · rcases hk with (hk|hk|hk)|hk|hk
    · exact Nat.lt_of_lt_of_le (h.lt k (.inl hk)) hs
    · exact Nat.lt_of_lt_of_le (hi.lt hk) hs
    · exact Nat.lt_of_lt_of_le (htv k hk).2 hs
    · exact Nat.lt_of_lt_of_le (h.lt k (.inr hk)) hs
    · exact hL.lt hk
structure PlGo (w w':World)(R V:Nat->Prop)(pb xb:Nat)(c:Cfg)(p:Pe):Prop where
  ex:∃R' V' v,PlIs w' R' V' pb xb c p v/\(∀k,R' k->R k\/w.heap.size<=k)/\∀k,V' k->V k\/w.heap.size<=k
  only:Only w w' V
theorem ks_at {v:Pv}{K:List Kn}(h:v.ks.map Prod.fst=K){i:Nat}{k:Kn}(hk:K[i]? =some k):∃ev,v.ks[i]? =some (k,ev):=by
  rw[<-h,List.getElem?_map] at hk
  cases e:v.ks[i]? with
  |none=>rw[e] at hk;cases hk
  |some y=>
    rw[e] at hk
    cases hk
    exact⟨y.2,rfl⟩
theorem PlGo.from {w w1 w2:World}{R R1 V:Nat->Prop}{pb xb:Nat}{c:Cfg}{p:Pe}(h:PlGo w1 w2 R1 V pb xb c p)(hO:Only w w1 V)(hR:∀k,R1 k->R k\/w.heap.size<=k):PlGo w w2 R V pb xb c p:=by
  obtain⟨R',V',v,h1,h2,h3⟩:=h.ex
  refine⟨⟨R',V',v,h1,λk hk=>(h2 k hk).elim (hR k) λe=>.inr (Nat.le_trans hO.size e),λk hk=>(h3 k hk).imp (λh=>h) λe=>Nat.le_trans hO.size e⟩,hO.trans h.only λ_ h=>.inl h⟩
theorem outc_land {p:Pe}{i id:Nat}{k0:Kn}{es:List Ed}(h:p.known[i]? =some k0)(he:k0.es=es):p.outc i (id,1)={p with number:=p.number+1,known:=p.known.modify i λk=>k.put 1,tip:=withL p.tip es,landed:=p.landed++[id]}:=by
  unfold Pe.outc
  rw[h,<-he]
  simp
theorem outc_same {p:Pe}{i id n:Nat}(h:¬n=1):p.outc i (id,n)={p with number:=p.number+1,known:=p.known.modify i λk=>k.put n}:=by
  unfold Pe.outc
  rw[if_neg h,if_neg h]
def WiAt (w w':World)(l:List Fl)(es:List Ed)(t6 t7:Value):Prop:=Below w.heap.size w w'/\((onL l es=true/\t7=.bool true/\FilesAt w' t6 (withL l es)/\∀g,t6.ownBlock=some g->w.heap.size<=g/\g<w'.heap.size)\/(onL l es=false/\t7=.bool false/\t6=.slice none 0 0))
theorem WiAt.of {w w':World}{l:List Fl}{es:List Ed}{e:Ending}(h:(onL l es=true/\∃v',e=.returned (.tuple #[v',.bool true])/\FilesAt w' v' (withL l es)/\∀g,v'.ownBlock=some g->w.drew.heap.size<=g/\g<w'.heap.size)\/(onL l es=false/\e=.returned (.tuple #[.slice none 0 0,.bool false])))(hb:Below w.drew.heap.size w.drew w'):∃t6 t7,e=.returned (.tuple #[t6,t7])/\WiAt w w' l es t6 t7:=by
  have hb':Below w.heap.size w w':=(Drew.one w 1).below.trans hb
  rcases h with ⟨h1,v',rfl,h2,h3⟩|⟨h1,rfl⟩
  · exact⟨_,_,rfl,hb',.inl ⟨h1,rfl,h2,h3⟩⟩
  · exact⟨_,_,rfl,hb',.inr ⟨h1,rfl,rfl⟩⟩
theorem hd' {p:Prop}(h:p):Hid p:=h
theorem below_ce {w w':World}(hb:Below w.heap.size w w'){b o:Nat}{u:Value}(h:w.cell? ⟨b,o,none⟩=some u):w'.cell? ⟨b,o,none⟩=some u:=(hb.cell (p:=⟨b,o,none⟩) (cell_lt h)).trans h
theorem land_step {w w':World}{R V:Nat->Prop}{pb xb:Nat}{c:Cfg}{p:Pe}{v:Pv}{o:Obj}{lv la:Value}{id:Nat}(h:PlIs w R V pb xb c p v)(e:v.lv=la)(hS:Sl w' 3 1 lv (p.landed.length+1) (p.landed.map cI++[.int .i64 id]))(hM:Moved (w.alloc o).drew w' la lv p.landed.length 1):
    ∃u,w'.cell? ⟨pb,11,none⟩=some u/\w'.frozen? ⟨pb,11,none⟩=false/\Hid (PlGo w (w'.setCell ⟨pb,11,none⟩ lv) R V pb xb c {p with landed:=p.landed++[id]}):=by
  subst e
  have hb:Below w.heap.size w (w.alloc o).drew:=(below_new w o).trans ((Drew.one _ 1).below.mono (by simp))
  have h0:=h.later hb
  obtain⟨row,hg,hr,_⟩:=hM.row
  have hB:Bx w' pb 58 (plC xb c v.kv v.jv v.tv v.lv p.number p.now):=h0.bx.grown hg λe=>h0.lr.ne h0.bx (by decide) (hr pb e.symm)
  obtain⟨h1,h2,h3⟩:=h0.addLand hS hM
  refine⟨_,hB.c 11 v.lv,hB.fr 11,⟨⟨R,_,_,h1,λ_ h=>.inl h,λk hk=>hk.elim .inl λe=>(h2 k e).imp (λh=>h) λe=>Nat.le_trans hb.size e⟩,?_⟩⟩
  exact(Only.of_below (S:=V) hb).trans h3 λ_ h=>.inl h
theorem pl_outcome (R V:Nat->Prop)(pb xb:Nat)(c:Cfg)(p:Pe)(v:Pv)(o:Nat×Nat)(i:Nat)(es:List Ed)(w:World)(h:PlIs w R V pb xb c p v)(hN:NextO c p o i es)(hnd:(p.known.map Kn.id).Nodup)(hkl:p.known.length<1099511627776)(hjl:p.jobs.length<1099511627776)(hnl:p.number<1099511627776)(hfl:∀e∈p.jobs,e.tree.length<8796093022208/\e.ids.length<1099511627776)(he1:0<es.length)(he2:es.length<=90)(htl:p.tip.length<=1000000000)(hll:p.landed.length<1099511627776):
    Calls prog 78 #[.pointer (some ⟨pb,0,none⟩),.agg #[.int .i64 ((p.number:Int)+1),.int .i64 o.1,.int .i64 o.2]] w λe w'=>e=.returned (.bool true)/\PlGo w w' R V pb xb c (p.outc i o):=by
  obtain⟨⟨k0,hk0,hkid,hkk,hkes⟩,hkind,hlands,hfails,hconf⟩:=hN
  obtain⟨ev,hev⟩:=ks_at h.ks hk0
  obtain⟨hi,hie⟩:=List.getElem?_eq_some_iff.1 hev
  obtain⟨g,off,cap,ekv,hcap,_⟩:=h.kr.addr (by omega)
  have hlen:v.ks.length=p.known.length:=by rw[<-h.ks,List.length_map]
  have hw1:=h.later (below_new w (.cells #[.int .i64 ((p.number:Int)+1),.int .i64 o.1,.int .i64 o.2] 99))
  have hfind:=pl_find R V pb xb c p v o.1 _ hw1 hkl
  have X0:=Bx.new w #[.int .i64 ((p.number:Int)+1),.int .i64 o.1,.int .i64 o.2] 99
  have HB0:Hid (Below w.heap.size w (w.alloc (.cells #[.int .i64 ((p.number:Int)+1),.int .i64 o.1,.int .i64 o.2] 99))):=below_new _ _
  have hob:w.heap.size≠pb:=Nat.ne_of_gt (h.lt pb (.inr h.vs.1))
  have Hfi:Hid (∀i' k',p.known[i']? =some k'->(k'.id:Int)=(o.1:Int)->i'=i):=λi' k' h1 h2=>by
    obtain⟨hi',e'⟩:=List.getElem?_eq_some_iff.1 h1
    have hi2:i<p.known.length:=by omega
    have e0:p.known[i]=k0:=(List.getElem?_eq_some_iff.1 hk0).2
    refine(List.getElem_inj (h₀:=by simpa using hi') (h₁:=by simpa using hi2) hnd).1 ?_
    rw[List.getElem_map,List.getElem_map,e',e0]
    omega
  have Hki:Hid (∃k∈p.known,(k.id:Int)=(o.1:Int)):=⟨k0,List.mem_of_getElem? hk0,by omega⟩
  have Hlt:Hid (∀k,V k->k<w.heap.size):=λk hk=>h.lt k (.inr hk)
  clear h
  have x0:=X0.c 0 (.int .i64 ((p.number:Int)+1))
  have x1:=X0.c 1 (.int .i64 o.1)
  have x2:=X0.c 2 (.int .i64 o.2)
  have b12:=hw1.bx.c 12 (.int .i64 p.number)
  have b8:=hw1.bx.c 8 v.kv
  have hkr:=hw1.kr
  rw[ekv] at hkr b8
  have k1:=hkr.at_ (f:=cKn) (λ_=>rfl) hi 1 (u:=.int .i64 0) (by rw[hie];show some (Value.int .i64 (k0.kind:Int))=_;rw[hkk];rfl)
  clear hkr
  go_enter func78,ntmps78
  go_wp2_with fail
  generalize w.alloc (.cells #[.int .i64 ((p.number:Int)+1),.int .i64 o.1,.int .i64 o.2] 99)=w1 at *
  have Hw1:Hid (PlIs w1 R V pb xb c p v):=hw1
  have X0':Hid (Bx w1 w.heap.size 99 #[.int .i64 ((p.number:Int)+1),.int .i64 o.1,.int .i64 o.2]):=X0
  have Hob:Hid (w.heap.size≠pb):=hob
  refine hfind.mono ?_
  rintro e w1' ⟨hF,e1⟩
  have e1:w1'=w1:=e1
  subst e1
  rcases hF with ⟨i',k',hk',hid',rfl⟩|⟨hno,rfl⟩
  · have e2:=Hfi.out i' k' hk' hid'
    subst e2
    have Hkid:Hid (k0.id=o.1):=hkid
    have Hkes:Hid (k0.es=es):=hkes
    have Hk0:Hid (p.known[i']? =some k0):=hk0
    have Hie:Hid (v.ks[i']=(k0,ev)):=hie
    have Hekv:Hid (v.kv=.slice (some ⟨g,off,none⟩) v.ks.length cap):=ekv
    have f12:=hw1.bx.fr 12
    clear hw1 X0 hfind hk' hid' Hfi Hki hkid hkes hkk hie ekv hlen hk0 hev hob
    have g1:decide ((i':Int)<0)=false:=decide_eq_false (by omega)
    have g2:decide ((o.2:Int)<1)=false:=decide_eq_false (by omega)
    have g3:decide ((4:Int)<(o.2:Int))=false:=decide_eq_false (by omega)
    go_wp2_with fail
    go_quiet (fail)
    have hD:=Drew.one w1' nq
    have hP1:=Hw1.out.later hD.below
    have hX1:=X0'.out.later hD.below
    have HB1:Hid (Below w.heap.size w (w1'.drewN nq)):=HB0.out.trans (hD.below.mono HB0.out.size)
    clear x0 x1 x2 b12 b8 k1 f12 Hw1 X0' HB0 hD
    generalize w1'.drewN nq=w2 at *
    have x0:=hX1.c 0 (.int .i64 ((p.number:Int)+1))
    have x2:=hX1.c 2 (.int .i64 o.2)
    have f12:=hP1.bx.fr 12
    have b12:=hP1.bx.c 12 (.int .i64 p.number)
    have hP2:=hP1.putNum (p.number+1)
    rw[show (((p.number+1:Nat):Int))=(p.number:Int)+1 by omega] at hP2
    have hX2:=hX1.other (c:=pb) Hob.out.symm 12 (.int .i64 ((p.number:Int)+1))
    have y2:=hX2.c 2 (.int .i64 o.2)
    have b8:=hP2.bx.c 8 v.kv
    have hkr:=hP2.kr
    rw[Hekv.out] at b8 hkr
    have fk:=hkr.fr (off+i'*3+1)
    have k1:=hkr.at_ (f:=cKn) (λ_=>rfl) hi 1 rfl
    have HP2:Hid (PlIs (w2.setCell ⟨pb,12,none⟩ (.int .i64 ((p.number:Int)+1))) R V pb xb c {p with number:=p.number+1} v):=hP2
    have HX2:Hid (Bx (w2.setCell ⟨pb,12,none⟩ (.int .i64 ((p.number:Int)+1))) w.heap.size 99 #[.int .i64 ((p.number:Int)+1),.int .i64 o.1,.int .i64 o.2]):=hX2
    have Hgv:Hid (V g):=hP2.vs.2.1 g (by rw[Hekv.out];rfl)
    have Hgw:Hid (g<w.heap.size):=Hlt.out g Hgv.out
    have HB2:Hid (Only w (w2.setCell ⟨pb,12,none⟩ (.int .i64 ((p.number:Int)+1))) V):=Only.set (Only.of_below HB1.out) (.inl hP2.vs.1)
    clear hP1 hX1 hP2 hX2 hkr HB1
    go_wp2_with fail
    generalize w2.setCell ⟨pb,12,none⟩ (.int .i64 ((p.number:Int)+1))=w3 at *
    go_region
    have hP3:PlIs (w3.setCell ⟨g,off+i'*3+1,none⟩ (.int .i64 o.2)).drew R V pb xb c {p with number:=p.number+1,known:=p.known.modify i' λk=>k.put o.2} {v with ks:=v.ks.modify i' λy=>(y.1.put o.2,y.2)}:=(HP2.out.putKind hi Hekv.out o.2).later (Drew.one _ 1).below
    have hX3:Bx (w3.setCell ⟨g,off+i'*3+1,none⟩ (.int .i64 o.2)).drew w.heap.size 99 #[.int .i64 ((p.number:Int)+1),.int .i64 o.1,.int .i64 o.2]:=(HX2.out.other (c:=g) (Nat.ne_of_lt Hgw.out) _ _)
    have HB3:Hid (Only w (w3.setCell ⟨g,off+i'*3+1,none⟩ (.int .i64 o.2)).drew V):=(Only.set HB2.out (.inl Hgv.out)).trans (Only.of_below (Drew.one _ 1).below) λ_ h=>.inl h
    clear x0 x2 f12 b12 y2 b8 fk k1 HP2 HX2 HB2 g1 g2 g3
    generalize hw4:(w3.setCell ⟨g,off+i'*3+1,none⟩ (.int .i64 o.2)).drew=w4 at *
    clear hw4
    have c10:=hP3.bx.c 10 v.tv
    have c8:=hP3.bx.c 8 v.kv
    have hkr:=hP3.kr
    rw[Hekv.out] at c8
    have hkr':Sl w4 53 3 (.slice (some ⟨g,off,none⟩) (v.ks.modify i' λy=>(y.1.put o.2,y.2)).length cap) (v.ks.modify i' λy=>(y.1.put o.2,y.2)).length ((v.ks.modify i' λy=>(y.1.put o.2,y.2)).flatMap cKn):=by
      have e:v.kv=.slice (some ⟨g,off,none⟩) (v.ks.modify i' λy=>(y.1.put o.2,y.2)).length cap:=by rw[List.length_modify];exact Hekv.out
      rw[<-e];exact hkr
    have c2:w4.cell? ⟨g,off+i'*3+2,none⟩=some ev:=hkr'.at_ (f:=cKn) (λ_=>rfl) (by rw[List.length_modify];exact hi) 2 (by rw[List.getElem_modify,if_pos rfl,Hie.out];rfl)
    have hev:EditsAt w4 ev es:=by
      have:=(hP3.ke (k0.put o.2,ev) (List.mem_iff_getElem.2 ⟨i',by rw[List.length_modify];exact hi,by rw[List.getElem_modify,if_pos rfl,Hie.out]⟩)).1
      rw[<-Hkes.out];exact this
    have hwi:=with_is p.tip es v.tv ev w4.drew (hP3.tr.1.later (Drew.one _ 1).below) (hev.later (Drew.one _ 1).below) he1 htl he2
    have HP3:Hid (PlIs w4 R V pb xb c {p with number:=p.number+1,known:=p.known.modify i' λk=>k.put o.2} {v with ks:=v.ks.modify i' λy=>(y.1.put o.2,y.2)}):=hP3
    have HX3:Hid (Bx w4 w.heap.size 99 #[.int .i64 ((p.number:Int)+1),.int .i64 o.1,.int .i64 o.2]):=hX3
    clear hP3 hX3 hkr hkr' hev
    generalize v.tv=tv at c10 hwi
    go_wp2_with fail
    go_cut [6,7] from 9 (λt6 t7 wz=>WiAt w4 wz p.tip es t6 t7)
    case first=>
      go_region_held_law (λw'=>w'.cell? ⟨pb,10,none⟩=some tv/\w'.cell? ⟨pb,8,none⟩=some (.slice (some ⟨g,off,none⟩) v.ks.length cap)/\w'.cell? ⟨g,off+i'*3+2,none⟩=some ev) (go_keep) ((go_at_call 67;refine hwi.mono ?_;rintro e w5 ⟨hr,hb5⟩;obtain⟨t6,t7,rfl,hW⟩:=WiAt.of hr hb5;have HW:=hd' hW;have d10:=below_ce hW.1 c10;have d8:=below_ce hW.1 c8;have d2:=below_ce hW.1 c2;clear hW hb5 hr))
      all_goals
        go_wp2_with fail
        go_meet
        case rel=>exact HW.out
    case rest=>
      obtain⟨hb,hres⟩:=hcut
      rename World=>wc
      have hP4:=HP3.out.later hb
      have hX4:=HX3.out.later hb
      have HB4:Hid (Only w wc V):=HB3.out.trans (Only.of_below (S:=V) hb) λ_ h=>.inl h
      have Hsz:Hid (w.heap.size<=w4.heap.size):=HB3.out.size
      have x1:=hX4.c 1 (.int .i64 o.1)
      have x2:=hX4.c 2 (.int .i64 o.2)
      have HP4:Hid (PlIs wc R V pb xb c {p with number:=p.number+1,known:=p.known.modify i' λk=>k.put o.2} {v with ks:=v.ks.modify i' λy=>(y.1.put o.2,y.2)}):=hP4
      have HX4:Hid (Bx wc w.heap.size 99 #[.int .i64 ((p.number:Int)+1),.int .i64 o.1,.int .i64 o.2]):=hX4
      clear hP4 hX4 HP3 HX3 HB3 c10 c8 c2 hwi
      obtain⟨oid,okd⟩:=o
      dsimp only at *
      by_cases hk1:okd=1
      · subst hk1
        rcases hres with ⟨hon,rfl,hf,hfr⟩|⟨hon,rfl,rfl⟩
        · obtain⟨a6,c6,rfl⟩:=hf.form
          have b10:=HP4.out.bx.c 10 v.tv
          have f10:=HP4.out.bx.fr 10
          have hP5:=HP4.out.putTip hf λg e=>⟨λhV=>by have h1:=Hlt.out g hV;have h2:=(hfr g e).1;have h3:=Hsz.out;omega,(hfr g e).2⟩
          have hX5:=HX4.out.other (c:=pb) Hob.out.symm 10 (.slice a6 (withL p.tip es).length c6)
          have HB5:Hid (Only w (wc.setCell ⟨pb,10,none⟩ (.slice a6 (withL p.tip es).length c6)) V):=Only.set HB4.out (.inl HP4.out.vs.1)
          have y1:=hX5.c 1 (.int .i64 oid)
          obtain⟨la,lc,elv⟩:=hP5.lr.form
          have b11:(wc.setCell ⟨pb,10,none⟩ (.slice a6 (withL p.tip es).length c6)).cell? ⟨pb,11,none⟩=some (.slice la p.landed.length lc):=by rw[hP5.bx.c 11 v.lv];exact congrArg some elv
          have HLR:Hid (Sl (wc.setCell ⟨pb,10,none⟩ (.slice a6 (withL p.tip es).length c6)) 3 1 (.slice la p.landed.length lc) p.landed.length (p.landed.map cI)):=by have h:=hP5.lr;rw[elv] at h;exact h
          have Helv:Hid (v.lv=.slice la p.landed.length lc):=elv
          have HP5:=hd' hP5
          have q1:Hid (p.landed.length+1<=maxLen):=by show _<=_;unfold maxLen;omega
          have q2:Hid ((p.landed.length+1)*8<=140737488355328):=Nat.le_trans (Nat.mul_le_mul_right 8 (show p.landed.length+1<=1099511627776 by omega)) (by decide)
          have Hfr:Hid (∀g,(Value.slice a6 (withL p.tip es).length c6).ownBlock=some g->w.heap.size<=g):=λg e=>Nat.le_trans Hsz.out (hfr g e).1
          obtain⟨i0,hi0,hz0,hz1,hz2⟩:=info_parts info_int
          clear hP5 hX5 elv hf hfr HP4 HX4 HB4 x1 hlands hfails hconf
          go_wp2_with fail
          generalize wc.setCell ⟨pb,10,none⟩ (.slice a6 (withL p.tip es).length c6)=w5 at *
          have e11:=below_ce (below_new w5 (.cells #[.int .i64 oid] 3)) b11
          clear b10 f10 x2
          go_region_law ((refine step_append_slt rfl _ _ 56 rfl _ i0 _ 1 8 underlying56 hi0 hz0 hz1 hz2 rfl (by decide) (.slice la p.landed.length lc) _ _ rfl (Sl.mk HLR.out _) ⟨w5.heap.size,0,none⟩ 1 1 [.int .i64 oid] rfl rfl (cells_new w5 _ _) (by simp[Value.oneCell']) (by decide) q1.out q2.out ?_;intro lv' w6 hS6 hM6;obtain⟨a7,c7,rfl⟩:=hS6.form;obtain⟨b1,b2,b3,HA⟩:=land_step HP5.out Helv.out hS6 hM6))
          all_goals
            go_wp2
            go_ret
            rw[outc_land Hk0.out Hkes.out]
            exact⟨rfl,HA.out.from HB5.out λk hk=>hk.imp (λh=>h) (Hfr.out k)⟩
        · rw[hlands rfl] at hon;cases hon
      have Hun:Hid (p.outc i' (oid,okd)={p with number:=p.number+1,known:=p.known.modify i' λk=>k.put okd}):=outc_same hk1
      have HG:Hid (∀w6,Below wc.heap.size wc w6->PlGo w w6 R V pb xb c (p.outc i' (oid,okd))):=λw6 hb6=>by
        rw[Hun.out]
        exact⟨⟨R,V,_,HP4.out.later hb6,λ_ h=>.inl h,λ_ h=>.inl h⟩,HB4.out.trans (Only.of_below (S:=V) hb6) λ_ h=>.inl h⟩
      have g1:((okd:Int)==1)=false:=beq_false_of_ne (by omega)
      by_cases hk2:okd=2
      · subst hk2
        rcases hres with ⟨hon,rfl,hf,hfr⟩|⟨hon,rfl,rfl⟩
        · obtain⟨a6,c6,rfl⟩:=hf.form
          have hfa:=pl_failed R V pb xb c _ _ oid (withL p.tip es) _ wc HP4.out hf hjl hfl
          have hgt:=(hfails rfl).2
          have Hgt:Hid (c.retries<failN p.jobs oid (withL p.tip es)):=hgt
          have Hb5:Hid (∀w6,Below wc.heap.size wc w6->w6.cell? ⟨pb,5,none⟩=some (.int .i64 c.retries)):=λw6 hb6=>(HP4.out.later hb6).bx.cell (i:=5) rfl
          clear HP4 HX4 HB4 hlands hfails hconf hf hfr Hun hgt hk1
          go_wp2_with fail
          refine hfa.mono ?_
          rintro _ w6 ⟨rfl,hb6⟩
          have b5:=Hb5.out w6 hb6
          have HG6:Hid (PlGo w w6 R V pb xb c (p.outc i' (oid,2))):=HG.out w6 hb6
          clear hfa Hb5 HG hb6 x1 x2 hb
          go_wp2
          go_ret
          exact⟨ret_bool (decide_eq_true Hgt.out),HG6.out⟩
        · rw[(hfails rfl).1] at hon;cases hon
      have g2:((okd:Int)==2)=false:=beq_false_of_ne (by omega)
      have HGc:Hid (PlGo w wc R V pb xb c (p.outc i' (oid,okd))):=HG.out wc (Below.refl _ _)
      by_cases hk3:okd=3
      · subst hk3
        rcases hres with ⟨hon,rfl,hf,hfr⟩|⟨hon,rfl,rfl⟩
        · rw[hconf rfl] at hon;cases hon
        · clear HP4 HX4 HB4 hlands hfails hconf Hun HG hk1 hk2 hon
          go_wp2
          go_ret
          exact⟨rfl,HGc.out⟩
      · have g3:((okd:Int)==3)=false:=beq_false_of_ne (by omega)
        have hh:∃b,u7=.bool b:=by
          rcases hres with ⟨_,h,_⟩|⟨_,h,_⟩
          · exact⟨_,h⟩
          · exact⟨_,h⟩
        obtain⟨b,rfl⟩:=hh
        clear HP4 HX4 HB4 hlands hfails hconf Hun HG hres hk1 hk2 hk3
        go_wp2
        go_ret
        exact⟨rfl,HGc.out⟩
  · obtain⟨k,hk,e⟩:=Hki.out
    exact absurd e (hno k hk)
end Go.Proofs.YtgamgomepdfgdaaGreat
