import Derived.Lib.AppendZeros
import Derived.Lib.Overlaps
import Derived.Laws.IdiomCopy
import Derived.Test.YtgamgomepdfgdaaGreatFM12
import Derived.Test.YtgamgomepdfgdaaGreatFM10
set_option maxRecDepth 100000
set_option maxHeartbeats 8000000
namespace Go.Proofs.YtgamgomepdfgdaaGreat
open Go.RowKit Go.Proofs.Tryz
def FilesMap (w:World)(mb n:Nat)(g:ByteArray->ByteArray):Prop:=∃D:DataW Unit,w.ownsMap prog 9 fileElem mb n D/\MapIs D g
theorem FilesMap.same {w w':World}{mb n:Nat}{g:ByteArray->ByteArray}(h:FilesMap w mb n g)(hs:w'.heap[mb]? =w.heap[mb]?):FilesMap w' mb n g:=by
  obtain⟨D,⟨es,clock,hh,h2,h3,h4⟩,hM⟩:=h
  exact⟨D,⟨es,clock,hs.trans hh,h2,h3,h4⟩,hM⟩
theorem FilesMap.lt {w:World}{mb n:Nat}{g:ByteArray->ByteArray}(h:FilesMap w mb n g):mb<w.heap.size:=by
  obtain⟨D,⟨es,clock,hh,_⟩,_⟩:=h
  exact(Array.getElem?_eq_some_iff.1 hh).1
theorem FilesMap.ne_sl {w:World}{mb n:Nat}{g:ByteArray->ByteArray}{e:TypeId}{size m:Nat}{v:Value}{xs:List Value}(h:FilesMap w mb n g)(hS:Sl w e size v m xs):v.ownBlock≠some mb:=λhv=>by
  obtain⟨D,⟨es,clock,hh,_⟩,_⟩:=h
  obtain⟨cur,hc⟩:=hS.typed hv
  rw[hc] at hh;cases hh
theorem FilesMap.ne_box {w:World}{mb n b:Nat}{g:ByteArray->ByteArray}{t:TypeId}{cs:Array Value}(h:FilesMap w mb n g)(hB:Bx w b t cs):mb≠b:=λe=>by
  obtain⟨D,⟨es,clock,hh,_⟩,_⟩:=h
  subst e
  unfold Bx at hB
  rw[hB] at hh;cases hh
theorem Bx.later {w w':World}{b:Nat}{t:TypeId}{cs:Array Value}(h:Bx w b t cs)(hb:Below w.heap.size w w'):Bx w' b t cs:=(hb.block b h.lt).trans h
theorem Bx.kept {w w':World}{b:Nat}{t:TypeId}{cs:Array Value}(h:Bx w b t cs){S:Nat->Prop}(hO:Only w w' S)(hn:¬S b):Bx w' b t cs:=(hO.block b h.lt hn).trans h
def Plus (S:Nat->Prop)(w:World):Nat->Prop:=λk=>S k\/w.heap.size<=k
theorem Plus.not {S:Nat->Prop}{w:World}{k:Nat}(h:¬S k)(hl:k<w.heap.size):¬Plus S w k:=λe=>by
  rcases e with e|e
  · exact h e
  · omega
theorem Plus.old {S:Nat->Prop}(w:World):∀k,S k->Plus S w k:=λ_ h=>.inl h
theorem Plus.two {S:Nat->Prop}{w w1:World}(h:w.heap.size<=w1.heap.size):∀k,Plus (Plus S w) w1 k->Plus S w k:=λk hk=>by
  rcases hk with hk|hk
  · exact hk
  · exact .inr (Nat.le_trans h hk)
def tMap:TypeId:=1000000
def TyAt (w:World)(k:Nat)(t:TypeId):Prop:=(∃cur,w.heap[k]? =some (.cells cur t (0,0)))\/(t=tMap/\∃es clock,w.heap[k]? =some (.map es clock))
theorem TyAt.one {w:World}{k:Nat}{t t':TypeId}(h:TyAt w k t)(h':TyAt w k t'):t=t':=by
  rcases h with ⟨c,e⟩|⟨rfl,es,cl,e⟩<;>rcases h' with ⟨c',e'⟩|⟨rfl,es',cl',e'⟩<;>rw[e] at e'
  · injection e' with e'
    injection e' with _ h2 _
  · cases e'
  · cases e'
theorem TyAt.lt {w:World}{k:Nat}{t:TypeId}(h:TyAt w k t):k<w.heap.size:=by
  rcases h with ⟨c,e⟩|⟨_,es,cl,e⟩<;>exact(Array.getElem?_eq_some_iff.1 e).1
theorem Bx.ty {w:World}{b:Nat}{t:TypeId}{cs:Array Value}(h:Bx w b t cs):TyAt w b t:=.inl ⟨cs,h⟩
theorem Sl.ty {w:World}{e:TypeId}{size n:Nat}{v:Value}{xs:List Value}(h:Sl w e size v n xs){g:Nat}(hg:v.ownBlock=some g):TyAt w g e:=.inl (h.typed hg)
theorem Subm.ty {w:World}{sb:Nat}{ids:List Nat}(h:Subm w sb ids):TyAt w sb tMap:=by
  obtain⟨D,⟨es,clock,hh,_⟩,_⟩:=h
  exact .inr ⟨rfl,es,clock,hh⟩
theorem FilesMap.ty {w:World}{mb n:Nat}{g:ByteArray->ByteArray}(h:FilesMap w mb n g):TyAt w mb tMap:=by
  obtain⟨D,⟨es,clock,hh,_⟩,_⟩:=h
  exact .inr ⟨rfl,es,clock,hh⟩
def OnlyT (w w':World)(S:Nat->Prop)(ts:List TypeId):Prop:=Only w w' λk=>S k/\∃t∈ts,TyAt w k t
theorem OnlyT.only {w w':World}{S:Nat->Prop}{ts:List TypeId}(h:OnlyT w w' S ts):Only w w' S:=Only.mono h λ_ hk=>hk.1
theorem OnlyT.size {w w':World}{S:Nat->Prop}{ts:List TypeId}(h:OnlyT w w' S ts):w.heap.size<=w'.heap.size:=Only.size h
theorem OnlyT.mono {w w':World}{S T:Nat->Prop}{ts us:List TypeId}(h:OnlyT w w' S ts)(hS:∀k,S k->T k)(ht:∀t∈ts,t∈us):OnlyT w w' T us:=Only.mono h λk ⟨h1,t,h2,h3⟩=>⟨hS k h1,t,ht t h2,h3⟩
theorem OnlyT.keep {w w':World}{S:Nat->Prop}{ts:List TypeId}(h:OnlyT w w' S ts){k:Nat}{t:TypeId}(hk:TyAt w k t)(ht:t∉ts):w'.heap[k]? =w.heap[k]? :=
  Only.block h k hk.lt λ⟨_,_,h1,h2⟩=>ht (hk.one h2▸h1)
structure KeepT (w w':World)(ts:List TypeId):Prop where
  size:w.heap.size<=w'.heap.size
  same:∀k t,TyAt w k t->t∉ts->w'.heap[k]? =w.heap[k]?
theorem OnlyT.k {w w':World}{S:Nat->Prop}{ts:List TypeId}(h:OnlyT w w' S ts):KeepT w w' ts:=⟨h.size,λ_ _ hk ht=>h.keep hk ht⟩
theorem KeepT.sl {w w':World}{ts:List TypeId}(h:KeepT w w' ts){e:TypeId}{size n:Nat}{v:Value}{xs:List Value}(hs:Sl w e size v n xs)(ht:e∉ts):Sl w' e size v n xs:=hs.kept λ_ hg=>h.same _ _ (hs.ty hg) ht
theorem KeepT.bx {w w':World}{ts:List TypeId}(h:KeepT w w' ts){b:Nat}{t:TypeId}{cs:Array Value}(hb:Bx w b t cs)(ht:t∉ts):Bx w' b t cs:=(h.same _ _ hb.ty ht).trans hb
theorem KeepT.sub {w w':World}{ts:List TypeId}(h:KeepT w w' ts){sb:Nat}{ids:List Nat}(hs:Subm w sb ids)(ht:tMap∉ts):Subm w' sb ids:=hs.same (h.same _ _ hs.ty ht)
theorem KeepT.map {w w':World}{ts:List TypeId}(h:KeepT w w' ts){mb n:Nat}{g:ByteArray->ByteArray}(hm:FilesMap w mb n g)(ht:tMap∉ts):FilesMap w' mb n g:=hm.same (h.same _ _ hm.ty ht)
theorem OnlyT.sl {w w':World}{S:Nat->Prop}{ts:List TypeId}(h:OnlyT w w' S ts){e:TypeId}{size n:Nat}{v:Value}{xs:List Value}(hs:Sl w e size v n xs)(ht:e∉ts):Sl w' e size v n xs:=h.k.sl hs ht
theorem OnlyT.bx {w w':World}{S:Nat->Prop}{ts:List TypeId}(h:OnlyT w w' S ts){b:Nat}{t:TypeId}{cs:Array Value}(hb:Bx w b t cs)(ht:t∉ts):Bx w' b t cs:=h.k.bx hb ht
theorem OnlyT.sub {w w':World}{S:Nat->Prop}{ts:List TypeId}(h:OnlyT w w' S ts){sb:Nat}{ids:List Nat}(hs:Subm w sb ids)(ht:tMap∉ts):Subm w' sb ids:=h.k.sub hs ht
theorem OnlyT.map {w w':World}{S:Nat->Prop}{ts:List TypeId}(h:OnlyT w w' S ts){mb n:Nat}{g:ByteArray->ByteArray}(hm:FilesMap w mb n g)(ht:tMap∉ts):FilesMap w' mb n g:=h.k.map hm ht
theorem OnlyT.trans {w w1 w2:World}{S T:Nat->Prop}{ts us:List TypeId}(h:OnlyT w w1 S ts)(h2:OnlyT w1 w2 T us)(hT:∀k,T k->Plus S w k):OnlyT w w2 S (ts++us):=by
  have key:∀k,k<w.heap.size->¬(S k/\∃t∈ts++us,TyAt w k t)->w2.heap[k]? =w.heap[k]? :=λk hk hn=>by
    have e1:w1.heap[k]? =w.heap[k]? :=Only.block h k hk λ⟨a,t,b,d⟩=>hn ⟨a,t,List.mem_append_left _ b,d⟩
    refine(Only.block h2 k (Nat.lt_of_lt_of_le hk h.size) λ⟨a,t,b,d⟩=>hn ⟨?_,t,List.mem_append_right _ b,by unfold TyAt at d ⊢;rwa [e1] at d⟩).trans e1
    rcases hT k a with x|x
    · exact x
    · omega
  exact⟨(Only.os h2).trans (Only.os h),(Only.tape h2).trans (Only.tape h),(Only.output h2).trans (Only.output h),Nat.le_trans h.size h2.size,key⟩
theorem OnlyT.below {w w':World}{S:Nat->Prop}{ts:List TypeId}(h:Below w.heap.size w w'):OnlyT w w' S ts:=Only.of_below h
theorem OnlyT.refl (w:World)(S:Nat->Prop)(ts:List TypeId):OnlyT w w S ts:=Only.refl w _
theorem OnlyT.from_new {w w':World}{o:Obj}{S:Nat->Prop}{ts:List TypeId}(h:OnlyT (w.alloc o) w' S ts):OnlyT w w' S ts:=(OnlyT.below (ts:=[]) (below_new w o)).trans h (Plus.old w)
theorem OnlyT.mk {w w':World}{S E:Nat->Prop}{ts:List TypeId}(h:Only w w' E)(hE:∀k,k<w.heap.size->E k->S k/\∃t∈ts,TyAt w k t):OnlyT w w' S ts:=
  ⟨h.os,h.tape,h.output,h.size,λk hk hn=>h.block k hk λe=>hn (hE k hk e)⟩
abbrev Cw:=Cg×Value
def cC (y:Cw):List Value:=[.int .i64 y.1.1,y.2]
def cI (n:Nat):Value:=.int .i64 n
def ptr (p:Nat):Value:=.pointer (some ⟨p,0,none⟩)
def In (S:Nat->Prop)(v:Value):Prop:=∀g,v.ownBlock=some g->S g
theorem In.mono {S T:Nat->Prop}{v:Value}(h:In S v)(hST:∀k,S k->T k):In T v:=λg hg=>hST g (h g hg)
structure ChsIs (w:World)(S:Nat->Prop)(cv:Value)(l:List Cg)(cl:List Cw):Prop where
  fst:cl.map Prod.fst=l
  row:Sl w 273 2 cv cl.length (cl.flatMap cC)
  own:In S cv
  eds:∀y∈cl,Sl w 49 3 y.2 y.1.2.length (y.1.2.flatMap cE)/\In S y.2
def JobIs (w:World)(S:Nat->Prop)(N:Nat)(v:Value):Option Jb->Prop
  |none=>v=.pointer none
  |some j=>∃b tv fl,v=ptr b/\Bx w b 242 #[.int .i64 j.num,.int .i64 j.til,tv]/\Sl w 80 2 tv fl.length (fl.flatMap cF)/\Told fl j.files/\fl.length<=N/\S b/\In S tv
def segCells (cv:Value)(fails by_:Nat)(jv:Value):Array Value:=#[cv,.int .i64 fails,.int .i64 by_,jv]
structure SegIs (w:World)(S:Nat->Prop)(N p:Nat)(x:Sm)(cv jv:Value)(cl:List Cw):Prop where
  box:Bx w p 240 (segCells cv x.fails x.by_ jv)
  chs:ChsIs w S cv x.l cl
  job:JobIs w S N jv x.job
  own:S p
def SegAt (w:World)(S:Nat->Prop)(N:Nat)(z:Nat×Sm):Prop:=∃cv jv cl,SegIs w S N z.1 z.2 cv jv cl
structure TrainIs (w:World)(S:Nat->Prop)(N:Nat)(tv:Value)(l:List Sm)(zs:List (Nat×Sm)):Prop where
  snd:zs.map Prod.snd=l
  row:Sl w 210 1 tv zs.length (zs.map λz=>ptr z.1)
  own:In S tv
  nd:(zs.map Prod.fst).Nodup
  segs:∀z∈zs,SegAt w S N z
abbrev Tp:=(Nat×List Nat)×Value
def cTp (y:Tp):List Value:=[.int .i64 y.1.1,y.2]
structure MainIs (w:World)(S:Nat->Prop)(mv:Value)(l:List (Nat×List Nat))(tl:List Tp):Prop where
  fst:tl.map Prod.fst=l
  row:Sl w 110 2 mv tl.length (tl.flatMap cTp)
  own:In S mv
  ids:∀y∈tl,Sl w 3 1 y.2 y.1.2.length (y.1.2.map cI)/\In S y.2
structure QIs (w:World)(S:Nat->Prop)(age:Nat)(q:List Pw)(qv:Value):Prop where
  row:Sl w 193 6 qv q.length (q.flatMap (cP age))
  eds:∀y∈q,Sl w 49 3 y.2 y.1.edits.length (y.1.edits.flatMap cE)
  fq:In S qv
  fe:∀y∈q,In S y.2
structure OIs (w:World)(S:Nat->Prop)(outs:List (Nat×Nat))(acked:Nat)(ov:Value):Prop where
  row:Sl w 99 3 ov (outs.length-acked) (oc acked (outs.drop acked))
  own:In S ov
structure Xt where
  tip:Nat
  mv:Value
  tv:Value
  n:Nat
def yardCells (c:Cfg)(x:Xt)(begun now:Nat)(qv:Value)(sb n:Nat)(ov:Value):Array Value:=
  #[.int .i64 c.lanes,.int .i64 c.age,.int .i64 c.batch,.int .i64 c.window,.int .i64 c.retries,.int .i64 c.deadline,.int .i64 c.queue,.map (some x.tip),x.mv,qv,.map (some sb),x.tv,.int .i64 begun,.int .i64 now,.int .i64 n,ov]
def Ts.top (n0:Nat)(s:Ts):Nat:=n0+4*s.ids.length+256
structure RestIs (w:World)(S:Nat->Prop)(mb n0:Nat)(s:Ts)(x:Xt)(tl:List Tp)(zs:List (Nat×Sm)):Prop where
  nm:¬S mb
  ml:mb<w.heap.size
  tip:x.tip=mb\/S x.tip
  map:FilesMap w x.tip x.n s.tip
  main:MainIs w S x.mv s.main tl
  train:TrainIs w S (s.top n0) x.tv s.segs zs
def RestAt (w:World)(S:Nat->Prop)(mb n0:Nat)(s:Ts)(x:Xt):Prop:=∃tl zs,RestIs w S mb n0 s x tl zs
theorem ChsIs.kept {w w':World}{S T:Nat->Prop}{cv:Value}{l:List Cg}{cl:List Cw}(h:ChsIs w S cv l cl)(hk:∀k,k<w.heap.size->S k->w'.heap[k]? =w.heap[k]?)(hST:∀k,S k->T k):ChsIs w' T cv l cl:=
  ⟨h.fst,h.row.kept λg hg=>hk g (h.row.lt hg) (h.own g hg),h.own.mono hST,λy hy=>⟨(h.eds y hy).1.kept λg hg=>hk g ((h.eds y hy).1.lt hg) ((h.eds y hy).2 g hg),(h.eds y hy).2.mono hST⟩⟩
theorem JobIs.kept {w w':World}{S T:Nat->Prop}{N N':Nat}{v:Value}{j:Option Jb}(h:JobIs w S N v j)(hk:∀k,k<w.heap.size->S k->w'.heap[k]? =w.heap[k]?)(hST:∀k,S k->T k)(hN:N<=N'):JobIs w' T N' v j:=by
  cases j with
  |none=>exact h
  |some j=>
    obtain⟨b,tv,fl,e,hb,hs,ht,hl,h1,h2⟩:=h
    exact⟨b,tv,fl,e,(hk _ hb.lt h1).trans hb,hs.kept λg hg=>hk g (hs.lt hg) (h2 g hg),ht,Nat.le_trans hl hN,hST _ h1,h2.mono hST⟩
theorem SegAt.kept {w w':World}{S T:Nat->Prop}{N N':Nat}{z:Nat×Sm}(h:SegAt w S N z)(hk:∀k,k<w.heap.size->S k->w'.heap[k]? =w.heap[k]?)(hST:∀k,S k->T k)(hN:N<=N'):SegAt w' T N' z:=by
  obtain⟨cv,jv,cl,h⟩:=h
  exact⟨cv,jv,cl,(hk _ h.box.lt h.own).trans h.box,h.chs.kept hk hST,h.job.kept hk hST hN,hST _ h.own⟩
theorem TrainIs.kept {w w':World}{S T:Nat->Prop}{N N':Nat}{tv:Value}{l:List Sm}{zs:List (Nat×Sm)}(h:TrainIs w S N tv l zs)(hk:∀k,k<w.heap.size->S k->w'.heap[k]? =w.heap[k]?)(hST:∀k,S k->T k)(hN:N<=N'):TrainIs w' T N' tv l zs:=
  ⟨h.snd,h.row.kept λg hg=>hk g (h.row.lt hg) (h.own g hg),h.own.mono hST,h.nd,λz hz=>(h.segs z hz).kept hk hST hN⟩
theorem MainIs.kept {w w':World}{S T:Nat->Prop}{mv:Value}{l:List (Nat×List Nat)}{tl:List Tp}(h:MainIs w S mv l tl)(hk:∀k,k<w.heap.size->S k->w'.heap[k]? =w.heap[k]?)(hST:∀k,S k->T k):MainIs w' T mv l tl:=
  ⟨h.fst,h.row.kept λg hg=>hk g (h.row.lt hg) (h.own g hg),h.own.mono hST,λy hy=>⟨(h.ids y hy).1.kept λg hg=>hk g ((h.ids y hy).1.lt hg) ((h.ids y hy).2 g hg),(h.ids y hy).2.mono hST⟩⟩
theorem QIs.kept {w w':World}{S T:Nat->Prop}{age:Nat}{q:List Pw}{qv:Value}(h:QIs w S age q qv)(hk:∀k,k<w.heap.size->S k->w'.heap[k]? =w.heap[k]?)(hST:∀k,S k->T k):QIs w' T age q qv:=
  ⟨h.row.kept λg hg=>hk g (h.row.lt hg) (h.fq g hg),λy hy=>(h.eds y hy).kept λg hg=>hk g ((h.eds y hy).lt hg) (h.fe y hy g hg),h.fq.mono hST,λy hy=>(h.fe y hy).mono hST⟩
theorem OIs.kept {w w':World}{S T:Nat->Prop}{outs:List (Nat×Nat)}{acked:Nat}{ov:Value}(h:OIs w S outs acked ov)(hk:∀k,k<w.heap.size->S k->w'.heap[k]? =w.heap[k]?)(hST:∀k,S k->T k):OIs w' T outs acked ov:=
  ⟨h.row.kept λg hg=>hk g (h.row.lt hg) (h.own g hg),h.own.mono hST⟩
theorem RestIs.kept {w w':World}{S T:Nat->Prop}{mb n0:Nat}{s s':Ts}{x:Xt}{tl:List Tp}{zs:List (Nat×Sm)}(h:RestIs w S mb n0 s x tl zs)(hz:w.heap.size<=w'.heap.size)(hk:∀k,k<w.heap.size->S k\/k=mb->w'.heap[k]? =w.heap[k]?)(hST:∀k,S k->T k)(hn:¬T mb)(ht:s'.tip=s.tip)(hm:s'.main=s.main)(hs:s'.segs=s.segs)(hi:s.ids.length<=s'.ids.length):RestIs w' T mb n0 s' x tl zs:=by
  refine⟨hn,Nat.lt_of_lt_of_le h.ml hz,h.tip.imp (λh=>h) (hST _),?_,?_,?_⟩
  · rw[ht]
    exact h.map.same (hk _ h.map.lt (h.tip.elim .inr .inl))
  · rw[hm];exact h.main.kept (λk hl hS=>hk k hl (.inl hS)) hST
  · rw[hs];exact h.train.kept (λk hl hS=>hk k hl (.inl hS)) hST (by unfold Ts.top;omega)
theorem ChsIs.keptT {w w':World}{S T:Nat->Prop}{ts:List TypeId}{cv:Value}{l:List Cg}{cl:List Cw}(h:ChsIs w S cv l cl)(hO:KeepT w w' ts)(hST:∀k,S k->T k)(h1:273∉ts)(h2:49∉ts):ChsIs w' T cv l cl:=
  ⟨h.fst,hO.sl h.row h1,h.own.mono hST,λy hy=>⟨hO.sl (h.eds y hy).1 h2,(h.eds y hy).2.mono hST⟩⟩
theorem JobIs.keptT {w w':World}{S T:Nat->Prop}{ts:List TypeId}{N N':Nat}{v:Value}{j:Option Jb}(h:JobIs w S N v j)(hO:KeepT w w' ts)(hST:∀k,S k->T k)(hN:N<=N')(h1:242∉ts)(h2:80∉ts):JobIs w' T N' v j:=by
  cases j with
  |none=>exact h
  |some j=>
    obtain⟨b,tv,fl,e,hb,hs,ht,hl,k1,k2⟩:=h
    exact⟨b,tv,fl,e,hO.bx hb h1,hO.sl hs h2,ht,Nat.le_trans hl hN,hST _ k1,k2.mono hST⟩
def NoSeg (ts:List TypeId):Prop:=273∉ts/\49∉ts/\242∉ts/\80∉ts
theorem SegAt.keptT {w w':World}{S T:Nat->Prop}{ts:List TypeId}{N N':Nat}{z:Nat×Sm}(h:SegAt w S N z)(hO:KeepT w w' ts)(hST:∀k,S k->T k)(hN:N<=N')(h0:240∉ts)(h1:NoSeg ts):SegAt w' T N' z:=by
  obtain⟨cv,jv,cl,h⟩:=h
  exact⟨cv,jv,cl,hO.bx h.box h0,h.chs.keptT hO hST h1.1 h1.2.1,h.job.keptT hO hST hN h1.2.2.1 h1.2.2.2,hST _ h.own⟩
theorem TrainIs.keptT {w w':World}{S T:Nat->Prop}{ts:List TypeId}{N N':Nat}{tv:Value}{l:List Sm}{zs:List (Nat×Sm)}(h:TrainIs w S N tv l zs)(hO:KeepT w w' ts)(hST:∀k,S k->T k)(hN:N<=N')(hp:210∉ts)(h0:240∉ts)(h1:NoSeg ts):TrainIs w' T N' tv l zs:=
  ⟨h.snd,hO.sl h.row hp,h.own.mono hST,h.nd,λz hz=>(h.segs z hz).keptT hO hST hN h0 h1⟩
theorem MainIs.keptT {w w':World}{S T:Nat->Prop}{ts:List TypeId}{mv:Value}{l:List (Nat×List Nat)}{tl:List Tp}(h:MainIs w S mv l tl)(hO:KeepT w w' ts)(hST:∀k,S k->T k)(h1:110∉ts)(h2:3∉ts):MainIs w' T mv l tl:=
  ⟨h.fst,hO.sl h.row h1,h.own.mono hST,λy hy=>⟨hO.sl (h.ids y hy).1 h2,(h.ids y hy).2.mono hST⟩⟩
theorem QIs.keptT {w w':World}{S T:Nat->Prop}{ts:List TypeId}{age:Nat}{q:List Pw}{qv:Value}(h:QIs w S age q qv)(hO:KeepT w w' ts)(hST:∀k,S k->T k)(h1:193∉ts)(h2:49∉ts):QIs w' T age q qv:=
  ⟨hO.sl h.row h1,λy hy=>hO.sl (h.eds y hy) h2,h.fq.mono hST,λy hy=>(h.fe y hy).mono hST⟩
theorem OIs.keptT {w w':World}{S T:Nat->Prop}{ts:List TypeId}{outs:List (Nat×Nat)}{acked:Nat}{ov:Value}(h:OIs w S outs acked ov)(hO:KeepT w w' ts)(hST:∀k,S k->T k)(h1:99∉ts):OIs w' T outs acked ov:=⟨hO.sl h.row h1,h.own.mono hST⟩
def NoRest (ts:List TypeId):Prop:=110∉ts/\3∉ts/\210∉ts/\240∉ts/\NoSeg ts
theorem RestIs.keptT {w w':World}{S T:Nat->Prop}{ts:List TypeId}{mb n0:Nat}{s s':Ts}{x:Xt}{tl:List Tp}{zs:List (Nat×Sm)}(h:RestIs w S mb n0 s x tl zs)(hO:KeepT w w' ts)(hST:∀k,S k->T k)(hn:¬T mb)(ht:s'.tip=s.tip)(hm:s'.main=s.main)(hs:s'.segs=s.segs)(hi:s.ids.length<=s'.ids.length)(hT:NoRest ts)(hM:FilesMap w' x.tip x.n s.tip):RestIs w' T mb n0 s' x tl zs:=
  ⟨hn,Nat.lt_of_lt_of_le h.ml hO.size,h.tip.imp (λh=>h) (hST _),ht▸hM,hm▸h.main.keptT hO hST hT.1 hT.2.1,hs▸h.train.keptT hO hST (by unfold Ts.top;omega) hT.2.2.1 hT.2.2.2.1 hT.2.2.2.2⟩
structure YardIs (w:World)(S:Nat->Prop)(yb mb n0:Nat)(c:Cfg)(s:Ts)(q:List Pw)(sb:Nat)(qv ov:Value)(x:Xt):Prop where
  qs:(q.map Prod.fst).Perm s.queue
  box:Bx w yb 201 (yardCells c x s.begun s.now qv sb s.outs.length ov)
  que:QIs w S c.age q qv
  sub:Subm w sb s.ids
  outs:OIs w S s.outs s.acked ov
  fy:S yb
  fs:S sb
  rest:RestAt w S mb n0 s x
  nt:sb≠x.tip
def YardAt (w:World)(S:Nat->Prop)(yb mb n0:Nat)(c:Cfg)(s:Ts):Prop:=∃q sb qv ov x,YardIs w S yb mb n0 c s q sb qv ov x/\x.n<=n0+4*s.outs.length
theorem YardIs.kept {w w':World}{S T:Nat->Prop}{yb mb n0:Nat}{c:Cfg}{s:Ts}{q:List Pw}{sb:Nat}{qv ov:Value}{x:Xt}(h:YardIs w S yb mb n0 c s q sb qv ov x)(hz:w.heap.size<=w'.heap.size)(hk:∀k,k<w.heap.size->S k\/k=mb->w'.heap[k]? =w.heap[k]?)(hST:∀k,S k->T k)(hn:¬T mb):YardIs w' T yb mb n0 c s q sb qv ov x:=by
  obtain⟨tl,zs,hr⟩:=h.rest
  have hk':∀k,k<w.heap.size->S k->w'.heap[k]? =w.heap[k]? :=λk hl hS=>hk k hl (.inl hS)
  exact⟨h.qs,(hk' _ h.box.lt h.fy).trans h.box,h.que.kept hk' hST,h.sub.same (hk' _ h.sub.lt h.fs),h.outs.kept hk' hST,hST _ h.fy,hST _ h.fs,⟨tl,zs,hr.kept hz hk hST hn rfl rfl rfl (Nat.le_refl _)⟩,h.nt⟩
theorem YardIs.nm {w:World}{S:Nat->Prop}{yb mb n0:Nat}{c:Cfg}{s:Ts}{q:List Pw}{sb:Nat}{qv ov:Value}{x:Xt}(h:YardIs w S yb mb n0 c s q sb qv ov x):¬S mb/\mb<w.heap.size:=by
  obtain⟨tl,zs,hr⟩:=h.rest
  exact⟨hr.nm,hr.ml⟩
theorem YardIs.np {w:World}{S:Nat->Prop}{yb mb n0:Nat}{c:Cfg}{s:Ts}{q:List Pw}{sb:Nat}{qv ov:Value}{x:Xt}(h:YardIs w S yb mb n0 c s q sb qv ov x):¬Plus S w mb:=Plus.not h.nm.1 h.nm.2
theorem YardAt.nm {w:World}{S:Nat->Prop}{yb mb n0:Nat}{c:Cfg}{s:Ts}(h:YardAt w S yb mb n0 c s):¬S mb/\mb<w.heap.size:=by
  obtain⟨q,sb,qv,ov,x,h,_⟩:=h
  exact h.nm
theorem YardAt.kept {w w':World}{S:Nat->Prop}{yb mb n0:Nat}{c:Cfg}{s:Ts}(h:YardAt w S yb mb n0 c s)(hz:w.heap.size<=w'.heap.size)(hk:∀k,k<w.heap.size->S k\/k=mb->w'.heap[k]? =w.heap[k]?):YardAt w' S yb mb n0 c s:=by
  obtain⟨q,sb,qv,ov,x,h,hx⟩:=h
  exact⟨q,sb,qv,ov,x,h.kept hz hk (λ_ h=>h) h.nm.1,hx⟩
theorem YardAt.later {w w':World}{S:Nat->Prop}{yb mb n0:Nat}{c:Cfg}{s:Ts}(h:YardAt w S yb mb n0 c s)(hb:Below w.heap.size w w'):YardAt w' S yb mb n0 c s:=h.kept hb.size λk hk _=>hb.block k hk
theorem YardAt.mono {w:World}{S T:Nat->Prop}{yb mb n0:Nat}{c:Cfg}{s:Ts}(h:YardAt w S yb mb n0 c s)(hST:∀k,S k->T k)(hn:¬T mb):YardAt w T yb mb n0 c s:=by
  obtain⟨q,sb,qv,ov,x,h,hx⟩:=h
  exact⟨q,sb,qv,ov,x,h.kept (Nat.le_refl _) (λ_ _ _=>rfl) hST hn,hx⟩
theorem YardIs.later {w w':World}{S:Nat->Prop}{yb mb n0:Nat}{c:Cfg}{s:Ts}{q:List Pw}{sb:Nat}{qv ov:Value}{x:Xt}(h:YardIs w S yb mb n0 c s q sb qv ov x)(hb:Below w.heap.size w w'):YardIs w' S yb mb n0 c s q sb qv ov x:=h.kept hb.size (λk hk _=>hb.block k hk) (λ_ h=>h) h.nm.1
theorem YardIs.mono {w:World}{S T:Nat->Prop}{yb mb n0:Nat}{c:Cfg}{s:Ts}{q:List Pw}{sb:Nat}{qv ov:Value}{x:Xt}(h:YardIs w S yb mb n0 c s q sb qv ov x)(hST:∀k,S k->T k)(hn:¬T mb):YardIs w T yb mb n0 c s q sb qv ov x:=h.kept (Nat.le_refl _) (λ_ _ _=>rfl) hST hn
theorem YardIs.sl {w:World}{S:Nat->Prop}{yb mb n0:Nat}{c:Cfg}{s:Ts}{q:List Pw}{sb:Nat}{qv ov:Value}{x:Xt}(h:YardIs w S yb mb n0 c s q sb qv ov x):∀y∈q,IsSl y.2:=λy hy=>by
  obtain⟨a,cap,e⟩:=(h.que.eds y hy).form
  exact⟨a,_,cap,e⟩
theorem YardIs.qlen {w:World}{S:Nat->Prop}{yb mb n0:Nat}{c:Cfg}{s:Ts}{q:List Pw}{sb:Nat}{qv ov:Value}{x:Xt}(h:YardIs w S yb mb n0 c s q sb qv ov x):q.length=s.queue.length:=by rw[<-h.qs.length_eq,List.length_map]
theorem Subm.ne_box {w:World}{sb b:Nat}{ids:List Nat}{t:TypeId}{cs:Array Value}(h:Subm w sb ids)(hB:Bx w b t cs):sb≠b:=λe=>by
  obtain⟨D,⟨es,clock,hh,_⟩,_⟩:=h
  subst e
  unfold Bx at hB
  rw[hB] at hh;cases hh
theorem Sl.apart {w:World}{e e':TypeId}{size n size' n':Nat}{v v':Value}{xs xs':List Value}(h:Sl w e size v n xs)(h':Sl w e' size' v' n' xs')(hne:e≠e'){g:Nat}(hv:v.ownBlock=some g):v'.ownBlock≠some g:=λhv'=>by
  obtain⟨cur,hc⟩:=h.typed hv
  obtain⟨cur',hc'⟩:=h'.typed hv'
  rw[hc] at hc'
  injection hc' with hc'
  injection hc' with _ h2 _
  exact hne h2
theorem info_ptr:(prog.info? 210).map (λi=>(i.zero,i.size,i.bytes))=some (some (.pointer none),1,8):=by kernel_rfl
theorem segFirst_some (yb i n:Nat)(t:TypeId)(u v:Value)(a:Option Addr)(hu:u=.pointer a)(cs:Array Value)(xs:List Value)(w:World)(hB:Bx w yb t cs)(hv:cs[i]? =some v)(hS:Sl w 210 1 v (n+1) (u::xs)):
    Calls prog 206 #[.pointer (some ⟨yb,i,none⟩)] w λe w'=>e=.returned (.tuple #[u,.bool true])/\Below w.heap.size w w':=by
  subst hu
  obtain⟨g,off,cap,rfl,hnc,hcm⟩:=hS.addr (by omega)
  have c0:=hB.cell hv
  have d0:w.cell? ⟨g,off,none⟩=some (.pointer a):=hS.cell (j:=0) rfl
  have hne:((n:Int)+1==0)=false:=by simp;omega
  clear hB hS
  go_enter func206,ntmps206
  go_wp2
  refine bodyPost_ret (by simp[results,results206,go_sem];rfl) rfl ⟨by rfl,?_⟩
  exact Below.refl _ _
theorem segFirst_none (yb i:Nat)(t:TypeId)(v:Value)(cs:Array Value)(w:World)(hB:Bx w yb t cs)(hv:cs[i]? =some v)(hS:Sl w 210 1 v 0 []):
    Calls prog 206 #[.pointer (some ⟨yb,i,none⟩)] w λe w'=>e=.returned (.tuple #[.pointer none,.bool false])/\Below w.heap.size w w':=by
  obtain⟨a,cap,rfl⟩:=hS.form
  have c0:=hB.cell hv
  clear hB hS
  go_enter func206,ntmps206
  go_wp2
  refine bodyPost_ret (by simp[results,results206,go_sem];rfl) rfl ⟨by rfl,?_⟩
  exact Below.refl _ _
theorem drop_sl1 {w:World}{e:TypeId}{g off cap n:Nat}{x0:Value}{xs:List Value}(h:Sl w e 1 (.slice (some ⟨g,off,none⟩) (n+1) cap) (n+1) (x0::xs))(z0:Value):
    Sl (w.setCell ⟨g,off,none⟩ z0) e 1 (.slice (some ⟨g,if cap-1=0 then off else off+1,none⟩) n (cap-1)) n xs:=by
  have h1:=h.set 0 z0
  have h2:=h1.tail (k:=1) (by omega) (off':=off+1) (.inl (by omega))
  simpa using h2
theorem drop_world1 {w W:World}{yb i g:Nat}{t e:TypeId}{cs:Array Value}{v':Value}{n size:Nat}{xs:List Value}(hB:Bx w yb t cs)(hS:Sl W e size v' n xs)(hg:w.grownBy W (some g))(hne:g≠yb)(hv:v'.ownBlock=some g):
    Bx (W.setCell ⟨yb,i,none⟩ v') yb t (cs.setIfInBounds i v')/\Sl (W.setCell ⟨yb,i,none⟩ v') e size v' n xs/\Only w (W.setCell ⟨yb,i,none⟩ v') (λk=>k=yb\/some g=some k):=by
  refine⟨(hB.grown hg (by simpa using hne.symm)).set i v',hS.grown (grown_set _ _ _ _) (λk hk e=>?_),?_⟩
  · rw[hv] at hk
    cases hk;cases e;exact hne rfl
  · exact Only.trans (Only.of_grown hg λk h=>.inr h) (S':=λk=>k=yb) (Only.of_grown (grown_set W yb i v') (S:=λk=>k=yb) λk h=>by cases h;rfl) λk h=>.inl (.inl h)
theorem segDrop (yb i n:Nat)(t:TypeId)(v u:Value)(cs:Array Value)(xs:List Value)(w:World)(hB:Bx w yb t cs)(hv:cs[i]? =some v)(hS:Sl w 210 1 v (n+1) (u::xs))(hne:v.ownBlock≠some yb):
    Calls prog 244 #[.pointer (some ⟨yb,i,none⟩)] w λe w'=>e=.returned (.tuple #[])/\∃v',Bx w' yb t (cs.setIfInBounds i v')/\Sl w' 210 1 v' n xs/\v'.ownBlock=v.ownBlock/\Only w w' (λk=>k=yb\/v.ownBlock=some k):=by
  obtain⟨g,off,cap,rfl,hnc,hcm⟩:=hS.addr (by omega)
  have c0:=hB.cell hv
  have f0:=hB.fr i
  have d0:w.cell? ⟨g,off,none⟩=some u:=hS.cell (j:=0) rfl
  have z0:=hS.fr off
  have hn0:((n:Int)+1==0)=false:=by simp;omega
  have hgy:g≠yb:=λe=>hne (by rw[e];rfl)
  have hyg:yb≠g:=hgy.symm
  have HB:Hid (Bx w yb t cs):=hB
  have HS:Hid (Sl w 210 1 (.slice (some ⟨g,off,none⟩) (n+1) cap) (n+1) (u::xs)):=hS
  clear hB hS
  go_enter func244,ntmps244
  go_wp2_with fail
  · subst h
    have hW:=drop_world1 (i:=i) HB.out (drop_sl1 HS.out (.pointer none)) (grown_set _ _ _ _) hgy rfl
    exact bodyPost_end (v:=.tuple #[]) (results_none (by kernel_rfl) _ _ _) rfl ⟨rfl,_,hW.1,hW.2.1,rfl,hW.2.2⟩
  · have hc:¬cap-1=0:=by omega
    have hD:=drop_sl1 HS.out (.pointer none)
    rw[if_neg hc] at hD
    have hW:=drop_world1 (i:=i) HB.out hD (grown_set _ _ _ _) hgy rfl
    exact bodyPost_end (v:=.tuple #[]) (results_none (by kernel_rfl) _ _ _) rfl ⟨rfl,_,hW.1,hW.2.1,rfl,hW.2.2⟩
theorem segAdd (yb i n:Nat)(t:TypeId)(a0:Option Addr)(v:Value)(cs:Array Value)(xs:List Value)(w:World)(hB:Bx w yb t cs)(hv:cs[i]? =some v)(hS:Sl w 210 1 v n xs)(hne:v.ownBlock≠some yb)(hn:n<1048576000):
    Calls prog 240 #[.pointer (some ⟨yb,i,none⟩),.pointer a0] w λe w'=>e=.returned (.tuple #[])/\∃v',Bx w' yb t (cs.setIfInBounds i v')/\Sl w' 210 1 v' (n+1) (xs++[.pointer a0])/\(v'.ownBlock=v.ownBlock\/∃g,v'.ownBlock=some g/\w.heap.size<=g)/\Only w w' (λk=>k=yb\/v.ownBlock=some k):=by
  obtain⟨i0,hi,hz0,hz1,hz2⟩:=info_parts info_ptr
  obtain⟨oa,ocap,rfl⟩:=hS.form
  have q1:Hid (n+1<=maxLen):=by show _<=_;unfold maxLen;omega
  have q2:Hid ((n+1)*8<=140737488355328):=Nat.le_trans (Nat.mul_le_mul_right 8 (show n+1<=1048576000 by omega)) (by decide)
  have HB:Hid (Bx w yb t cs):=hB
  have HS:Hid (Sl w 210 1 (.slice oa n ocap) n xs):=hS
  have hlt:=hB.lt
  have c12:=hB.cell hv
  clear hB hS
  go_enter func240,ntmps240
  go_wp2_with (at_builtin;refine wpList_append_sl _ rfl _ _ 195 rfl _ i0 _ 1 8 underlying195 hi hz0 hz1 hz2 rfl (by decide) (.slice oa n ocap) _ _ rfl (Sl.mk HS.out _) ⟨w.heap.size,0,none⟩ 1 1 [.pointer a0] rfl rfl (cells_new w _ _) (by simp[Value.oneCell']) q1.out q2.out ?_;intro v3 w3 hown3 hg3 hloc3;obtain⟨a3,c3,rfl⟩:=hown3.form;have HB3:Hid (Bx w3 yb t cs):=Bx.grown (HB.out.mk _) hg3 (λe=>hne e.symm);have d12:=HB3.out.cell hv;have f3:=HB3.out.fr i;have O3:Hid (Sl w3 210 1 (.slice a3 (n+1) c3) (n+1) (xs++[.pointer a0])):=hown3;have G3:Hid (w.grownBy w3 (Value.slice oa n ocap).ownBlock):=(World.grownBy_alloc w _ _).trans ⟨hg3.os,hg3.tape,hg3.output,hg3.size,hg3.block⟩;have L3:Hid ((Value.slice a3 (n+1) c3).ownBlock=(Value.slice oa n ocap).ownBlock\/∃g,(Value.slice a3 (n+1) c3).ownBlock=some g/\w.heap.size<=g):=hloc3.imp (λh=>h) (λ⟨g,h,hle⟩=>⟨g,h,Nat.le_trans (by simp) hle⟩);clear hown3 hg3 hloc3)
  all_goals
    have nnb:(Value.slice a3 (n+1) c3).ownBlock≠some yb:=by
      rcases L3.out with h|⟨g,h,hg⟩
      · rw[h];exact hne
      · rw[h];intro e;cases e;omega
    refine bodyPost_end (v:=.tuple #[]) (results_none (by kernel_rfl) _ _ _) rfl ⟨rfl,_,HB3.out.set i _,Sl.grown O3.out (grown_set _ _ _ _) (λg hg e=>nnb (by rw[hg];exact e.symm)),L3.out,?_⟩
    exact Only.trans (Only.of_grown G3.out λk h=>.inr h) (Only.of_grown (grown_set _ _ _ _) (S:=λk=>k=yb) λk h=>by cases h;rfl) λk h=>.inl (.inl h)
theorem set9 (c:Cfg)(x:Xt)(b t:Nat)(qv qv':Value)(sb n:Nat)(ov:Value):(yardCells c x b t qv sb n ov).setIfInBounds 9 qv'=yardCells c x b t qv' sb n ov:=rfl
theorem set1415 (c:Cfg)(x:Xt)(b t:Nat)(qv:Value)(sb n:Nat)(ov ov':Value):((yardCells c x b t qv sb n ov).setIfInBounds 14 (.int .i64 ((n:Int)+1))).setIfInBounds 15 ov'=yardCells c x b t qv sb (n+1) ov':=by
  simp[yardCells]
theorem set15 (c:Cfg)(x:Xt)(b t:Nat)(qv:Value)(sb n:Nat)(ov ov':Value):(yardCells c x b t qv sb n ov).setIfInBounds 15 ov'=yardCells c x b t qv sb n ov':=rfl
theorem drop_snoc {α:Type}{l:List α}{k:Nat}(h:k<=l.length)(x:α):(l++[x]).drop k=l.drop k++[x]:=List.drop_append_of_le_length h
theorem tEnd {S:Nat->Prop}{yb mb n0:Nat}(id kind:Nat){c:Cfg}{s:Ts}{w:World}{q:List Pw}{sb:Nat}{qv ov:Value}{x:Xt}(h:YardIs w S yb mb n0 c s q sb qv ov x)(ho:s.outs.length<1048576000)(ha:s.acked<=s.outs.length):
    Calls prog 170 #[.pointer (some ⟨yb,0,none⟩),.int .i64 id,.int .i64 kind] w λe w'=>e=.returned (.tuple #[])/\(∃ov',YardIs w' (Plus S w) yb mb n0 c {s with outs:=s.outs++[(id,kind)]} q sb qv ov' x)/\OnlyT w w' S [201,99]:=by
  refine(yEnd yb _ s.outs.length id kind ov _ _ w h.box rfl rfl h.outs.row (by omega) ho).mono ?_
  rintro e w' ⟨rfl,o',h1,h2,h3,h4⟩
  rw[set1415] at h1
  have O:OnlyT w w' S [201,99]:=OnlyT.mk h4 λk hk e=>by
    rcases e with rfl|e
    · exact⟨h.fy,_,by simp,h.box.ty⟩
    · exact⟨h.outs.own k e,_,by simp,h.outs.row.ty e⟩
  obtain⟨tl,zs,hr⟩:=h.rest
  refine⟨rfl,⟨o',h.qs,?_,h.que.keptT O.k (Plus.old w) (by decide) (by decide),O.sub h.sub (by decide),⟨?_,λk hk=>?_⟩,.inl h.fy,.inl h.fs,⟨tl,zs,hr.keptT O.k (Plus.old w) h.np rfl rfl rfl (Nat.le_refl _) (by unfold NoRest NoSeg;decide) (O.map hr.map (by decide))⟩,h.nt⟩,O⟩
  · show Bx w' yb _ (yardCells c x _ _ _ sb (s.outs++[(id,kind)]).length o')
    rw[List.length_append];exact h1
  · show Sl w' _ 3 o' ((s.outs++[(id,kind)]).length-s.acked) _
    rw[drop_snoc ha,oc_snoc,List.length_drop,List.length_append]
    have e1:s.acked+(s.outs.length-s.acked)=s.outs.length:=by omega
    have e2:s.outs.length+[(id,kind)].length-s.acked=s.outs.length-s.acked+1:=by simp only[List.length_singleton];omega
    rw[e1,e2]
    exact h2
  · rcases h3 with e|⟨k',e,hk'⟩
    · rw[e] at hk;exact .inl (h.outs.own k hk)
    · rw[e] at hk;cases hk;exact .inr hk'
section
open Go.Lib
theorem run_append_zeros_over {P:Program}(w:World)(t tn ty e:TypeId)(i:TypeInfo)(z:Value)(k kn:IntKind)(ht:P.underlying t=some (.slice e))(htn:P.underlying tn=some (.int kn))(hi:P.info? e=some i)(hz:i.zero=some z)(base:Option Addr)(c n:Nat)(hc:c<n)(hs:0<i.size)(h63:(n:Int)<=9223372036854775807)(h48:n*i.bytes<=140737488355328):
    (Builtin.append_ #[t,tn] ty #[.slice base 0 c,.int k n]).run P w=
      .ok (.slice (some ⟨w.heap.size,0,none⟩) n (grownCap w n c e)) (w.drew.alloc (.cells (Builtin.zeroCells z.cells n++Builtin.zeroCells z.cells (grownCap w n c e-n)) e)):=by
  have hn:n≠0:=by omega
  have hw:IntKind.i64.wrap (n:Int)=n:=by rw[IntKind.wrap_i64];omega
  have h63':¬(9223372036854775807<(n:Int)):=by omega
  have h48':¬(281474976710656<Builtin.nextslicecap n c*i.bytes):=by
    have:=growslice_fits hc h48
    omega
  have h48i:¬(281474976710656<(n:Int)*(i.bytes:Int)):=by
    rw[<-Int.natCast_mul]
    omega
  have hneg:¬((n:Int)<0):=by omega
  have hns:¬(n*i.size=0):=Nat.mul_ne_zero hn (by omega)
  have hcn:¬n<=c:=by omega
  have hf:∀W:World,(Builtin.firstCells i.size 0 (.slice base 0 c)).run P W=.ok #[] W:=λW=>by
    have hl:∀x:Addr,(loadCells x 0).run P W=.ok #[] W:=λx=>by simpa using run_loadCells_list (P:=P) W x [] (by simp)
    cases base<;>simp[Builtin.firstCells,hl]
  simp[Builtin.append_,run_underlying ht,run_underlying htn,sizeOf,typeInfo,zeroValue,hi,hz,asInt,asIntOf,hw,hneg,hns,h63',h48',h48i,hcn,Question.forced,hf,newRow,grownCap]
structure Over (w w':World)(g:Nat)(e:TypeId)(o:Nat)(vs:List Value)(cur cur':Array Value):Prop where
  row:w'.heap[g]? =some (.cells cur' e (0,0))
  size:cur'.size=cur.size
  inn:∀j u,vs[j]? =some u->cur'[o+j]? =some u
  out:∀k,(k<o\/o+vs.length<=k)->cur'[k]? =cur[k]?
  grown:w.grownBy w' (some g)
theorem over_setCells (g:Nat)(e:TypeId):∀(vs:List Value) (o:Nat) (w:World) (cur:Array Value),w.heap[g]? =some (.cells cur e (0,0))->o+vs.length<=cur.size->∃cur',Over w (w.setCells g o vs) g e o vs cur cur'
  |[],o,w,cur,h,_=>⟨cur,h,rfl,λj u hu=>by simp at hu,λ_ _=>rfl,World.grownBy.refl _ _⟩
  |v::vs,o,w,cur,h,hl=>by
    have h1:(w.setCell ⟨g,o,none⟩ v).heap[g]? =some (.cells (cur.setIfInBounds o v) e (0,0)):=by simp[World.setCell,Array.getElem?_modify,h]
    simp only[List.length_cons] at hl
    obtain⟨cur',r1,r2,r3,r4,r5⟩:=over_setCells g e vs (o+1) _ _ h1 (by simp;omega)
    refine⟨cur',r1,by simpa using r2,λj u hu=>?_,λk hk=>?_,(grown_set w g o v).trans r5⟩
    · cases j with
      |zero=>
        simp only[List.getElem?_cons_zero,Option.some.injEq] at hu
        subst hu
        rw[Nat.add_zero,r4 o (by omega),Array.getElem?_setIfInBounds]
        simp;omega
      |succ j=>
        rw[List.getElem?_cons_succ] at hu
        rw[show o+(j+1)=o+1+j by omega]
        exact r3 j u hu
    · simp only[List.length_cons] at hk
      rw[r4 k (by omega),Array.getElem?_setIfInBounds_ne (by omega)]
theorem run_copy_over {P:Program}(w:World)(t ty elem:TypeId)(g o dLen dCap:Nat)(a:Addr)(m sCap:Nat)(cs:List Value)(cur:Array Value)(hu:P.underlying t=some (.slice elem))(hs:(P.info? elem).map (·.size)=some 1)(hl:cs.length=Nat.min m dLen)(hg:w.heap[g]? =some (.cells cur elem (0,0)))(hfit:o+cs.length<=cur.size)(hsrc:∀j v,cs[j]? =some v->w.cell? (a.add j)=some v)(h1:∀v∈cs,v.oneCell'=true):
    ∃w' cur',(Builtin.copy_ #[t,t] ty #[.slice (some ⟨g,o,none⟩) dLen dCap,.slice (some a) m sCap]).run P w=.ok (goInt cs.length) w'/\Over w w' g elem o cs cur cur':=by
  obtain⟨cur',h⟩:=over_setCells g elem cs o w cur hg hfit
  refine⟨_,cur',?_,h⟩
  exact run_copy_cells (P:=P) w t t ty elem g o dLen dCap a m sCap cs hu hs hl hsrc (λj hj=>by
    have:o+j<cur.size:=by omega
    simp[World.cell?,hg,this]) (λj _=>by simp[World.frozen?,hg]) h1
theorem wpList_copy_over {P:Program}(w:World){ops:Array Oper}{rest:List Oper}{o:Oper}{a:Act}{Q:Exit->Act->World->Prop}(hgd:o.guard=none)(d s:Operand)(t:TypeId)(ho:o.op=.call {callee:=.builtin .copy,args:=#[d,s],argTypes:=#[t,t]})(elem:TypeId)(hu:P.underlying t=some (.slice elem))(hs:(P.info? elem).map (·.size)=some 1)(g of dLen dCap:Nat)(ad:Addr)(m sCap:Nat)(cs:List Value)(cur:Array Value)(hd:a.eval d=.slice (some ⟨g,of,none⟩) dLen dCap)(hsv:a.eval s=.slice (some ad) m sCap)(hl:cs.length=Nat.min m dLen)(hg:w.heap[g]? =some (.cells cur elem (0,0)))(hfit:of+cs.length<=cur.size)(hsrc:∀j v,cs[j]? =some v->w.cell? (ad.add j)=some v)(h1:∀v∈cs,v.oneCell'=true)(h:∀w' cur',Over w w' g elem of cs cur cur'->wpList P ops Q rest (a.put o.dst (goInt cs.length)) w'):wpList P ops Q (o::rest) a w:=by
  refine wpList_plain hgd λK hK=>?_
  obtain⟨w',cur',hr,h2⟩:=run_copy_over (P:=P) w t o.type elem g of dLen dCap ad m sCap cs cur hu hs hl hg hfit hsrc h1
  unfold Oper.wp execOp
  simp only[ho,resolve,invoke,builtin,Sem.run_bind,Sem.run_pure,Result.andThen_ok,List.map_toArray,List.map_cons,List.map_nil,hd,hsv,hr]
  exact hK _ _ (h w' cur' h2)
theorem step_copy_over {P:Program}{ops:Array Oper}{o:Oper}{a:Act}{w:World}{K:Act->World->Prop}{Q:Exit->Act->World->Prop}{E:Prop}(hgd:o.guard=none)(d s:Operand)(t:TypeId)(ho:o.op=.call {callee:=.builtin .copy,args:=#[d,s],argTypes:=#[t,t]})(elem:TypeId)(hu:P.underlying t=some (.slice elem))(hs:(P.info? elem).map (·.size)=some 1)(g of dLen dCap:Nat)(ad:Addr)(m sCap:Nat)(cs:List Value)(cur:Array Value)(hd:a.eval d=.slice (some ⟨g,of,none⟩) dLen dCap)(hsv:a.eval s=.slice (some ad) m sCap)(hl:cs.length=Nat.min m dLen)(hg:w.heap[g]? =some (.cells cur elem (0,0)))(hfit:of+cs.length<=cur.size)(hsrc:∀j v,cs[j]? =some v->w.cell? (ad.add j)=some v)(h1:∀v∈cs,v.oneCell'=true)(hK:∀w' cur',Over w w' g elem of cs cur cur'->K (a.put o.dst (goInt cs.length)) w'):if Region.wanted o (yielded ops a.tmps)=true then Oper.wp P o a w K Q else E:=by
  have hw:Region.wanted o (yielded ops a.tmps)=true:=by simp[Region.wanted,hgd]
  rw[if_pos hw]
  obtain⟨w',cur',hr,h2⟩:=run_copy_over (P:=P) w t o.type elem g of dLen dCap ad m sCap cs cur hu hs hl hg hfit hsrc h1
  unfold Oper.wp execOp
  simp only[ho,resolve,invoke,builtin,Sem.run_bind,Sem.run_pure,Result.andThen_ok,List.map_toArray,List.map_cons,List.map_nil,hd,hsv,hr]
  exact hK w' cur' h2
end
section
open Go.Lib
theorem step_append_over {P:Program}{ops:Array Oper}{o:Oper}{a:Act}{w:World}{K:Act->World->Prop}{Q:Exit->Act->World->Prop}{E:Prop}(hg:o.guard=none)(s x:Operand)(t:TypeId)(hop:o.op=Op.call {callee:=Callee.builtin Builtin.append,args:=#[s,x],argTypes:=#[t,t]})(e:TypeId)(i:TypeInfo)(size:Nat)(h1:P.underlying t=some (.slice e))(h2:P.info? e=some i)(h4:i.size=size)(b off n cap:Nat)(hs:a.eval s=.slice (some ⟨b,off,none⟩) n cap)(ad:Addr)(m c:Nat)(news:List Value)(hx:a.eval x=.slice (some ad) m c)(hn:news.length=m*size)(hc:∀j u,news[j]? =some u->w.cell? (ad.add j)=some u)(h1c:∀u∈news,u.oneCell'=true)(hroom:n+m<=cap)(cur:Array Value)(hb:w.heap[b]? =some (.cells cur e (0,0)))(hfit:off+n*size+news.length<=cur.size)(hK:∀w' cur',Over w w' b e (off+n*size) news cur cur'->K (a.put o.dst (.slice (some ⟨b,off,none⟩) (n+m) cap)) w'):
    if Region.wanted o (yielded ops a.tmps)=true then Oper.wp P o a w K Q else E:=by
  obtain⟨cur',h⟩:=over_setCells b e news (off+n*size) w cur hb hfit
  exact step_append_room hg s x t hop e i size h1 h2 h4 b off n cap hs ad m c news hx hn hc h1c hroom (λj hj=>by
    have:off+n*size+j<cur.size:=by omega
    exact⟨by simp[World.cell?,hb,this],by simp[World.frozen?,hb]⟩) (hK _ _ h)
theorem delete_first (q:List Pw)(age k g off cap:Nat)(w:World)(hS:Sl w 193 6 (.slice (some ⟨g,off,none⟩) q.length cap) q.length (q.flatMap (cP age)))(hsl:∀x∈q,IsSl x.2)(hk:0<k)(hkl:k<=q.length)(hn:q.length<=16):
    Calls prog 241 #[.slice (some ⟨g,off,none⟩) q.length cap,.int .i64 0,.int .i64 k] w λe w'=>e=.returned (.slice (some ⟨g,off,none⟩) (q.length-k) cap)/\Sl w' 193 6 (.slice (some ⟨g,off,none⟩) (q.length-k) cap) (q.length-k) ((q.drop k).flatMap (cP age))/\w.grownBy w' (some g):=by
  obtain⟨i0,hi,hz0,hz1,hz2⟩:=info_parts info_pw
  obtain⟨cur,hcur,h1,h2,hfit,hcells⟩:=hS.row
  unfold maxLen at h2
  have hlen:((q.drop k).flatMap (cP age)).length=(q.length-k)*6:=by rw[flat_len (cP age) 6 (λ_=>rfl),List.length_drop]
  have hdrop:(q.flatMap (cP age)).drop (k*6)=(q.drop k).flatMap (cP age):=by
    conv=>lhs;rw[<-List.take_append_drop k q,List.flatMap_append]
    rw[List.drop_left' (by rw[flat_len (cP age) 6 (λ_=>rfl),List.length_take,Nat.min_eq_left hkl])]
  have hone:∀u∈(q.drop k).flatMap (cP age),u.oneCell'=true:=λu hu=>by
    obtain⟨y,hy,hu⟩:=List.mem_flatMap.1 hu
    obtain⟨ea,en,ec,he⟩:=hsl y (List.mem_of_mem_drop hy)
    simp[cP,he] at hu
    rcases hu with rfl|rfl|rfl|rfl|rfl|rfl<;>rfl
  have HG:Hid (w.heap[g]? =some (.cells cur 193 (0,0))):=hcur
  have HF:Hid (off+cap*6<=cur.size):=hfit
  have HO:Hid (∀u∈(q.drop k).flatMap (cP age),u.oneCell'=true):=hone
  have HL:Hid (((q.drop k).flatMap (cP age)).length=(q.length-k)*6):=hlen
  have HFit:Hid (off+0*6+((q.drop k).flatMap (cP age)).length<=cur.size):=by
    show _<=_
    omega
  have HC:Hid (∀A:Nat,(A=off+k*6\/q.length-k=0)->∀j u,((q.drop k).flatMap (cP age))[j]? =some u->w.drew.cell? ((⟨g,A,none⟩:Addr).add j)=some u):=λA hA j u hj=>by
    have hjl:=(List.getElem?_eq_some_iff.1 hj).1
    rw[<-hdrop,List.getElem?_drop] at hj
    rw[show (⟨g,A,none⟩:Addr).add j=⟨g,A+j,none⟩ by
      unfold Addr.add
      by_cases h:j=0
      · subst h;simp
      · simp[h],cell_drew]
    have hc:=hcells _ u hj
    rcases hA with rfl|hA
    · rw[Nat.add_assoc]
      simp[World.cell?,hcur,hc]
    · rw[hlen,hA] at hjl
      omega
  generalize (q.drop k).flatMap (cP age)=news at *
  generalize q.length=n at *
  have q1:¬((0:Int)=k):=by omega
  have q2:((0:Int)==(k:Int))=false:=by simp;omega
  have q3:(k:Int)<=n:=by omega
  have q4:(0:Int)<=k:=by omega
  have q5:(k:Int)≠0:=by omega
  have hck:¬cap=0:=by omega
  have wk:IntKind.i64.wrap (k:Int)=k:=wrap_i64 (by omega) (by omega)
  have hroom:Hid (0+(n-k)<=cap):=by
    show _<=_
    omega
  clear hS hcur hfit hcells hlen hone hdrop hsl
  have hsub:¬cap-(n-k)=0:=by omega
  by_cases hcap:cap=k
  · obtain rfl:n=k:=by omega
    subst hcap
    go_enter func241,ntmps241
    go_wp2_with fail
    go_region_law ((first|(refine step_append_over rfl _ _ 190 rfl 193 i0 6 underlying190 hi hz1 g off 0 cap (by simp[Act.eval,Act.put]) ⟨g,off,none⟩ 0 0 news (by simp[Act.eval,Act.put]) (by simpa using HL.out) (HC.out _ (.inr (Nat.sub_self _))) HO.out (by omega) cur HG.out HFit.out ?_;intro w3 cur3 hO3;have O3:Hid (Over w.drew w3 g 193 (off+0*6) news cur cur3):=hO3;clear hO3)|fail))
    all_goals
      have HF3:Hid (off+cap*6<=cur3.size):=by
        have h3:=O3.out.size
        have h4:=HF.out
        show _<=_
        omega
      go_wp2_with (refine wpList_clear_sl _ rfl _ _ rfl _ _ 6 underlying190 zero_pw rfl (by simp[Value.cells,Value.oneCell']) g off cap cap hk (by simp[Act.eval]) cur3 O3.out.row HF3.out ?_;intro w4 cur4 h3 h4 h5 h6)
      go_ret
      refine⟨by simp,⟨HL.out,.inr ⟨g,off,cap,cur4,by simp,h3,by omega,by unfold maxLen;omega,?_,λj u hu=>?_⟩⟩,?_⟩
      · have:=O3.out.size
        have:=HF.out
        omega
      · have hj:=(List.getElem?_eq_some_iff.1 hu).1
        rw[HL.out] at hj
        omega
      · exact(⟨O3.out.grown.os,O3.out.grown.tape,O3.out.grown.output,O3.out.grown.size,O3.out.grown.block⟩:w.grownBy w3 (some g)).trans h6
  · have hcap':¬cap-k=0:=by omega
    go_enter func241,ntmps241
    go_wp2_with fail
    go_region_law ((first|(refine step_append_over rfl _ _ 190 rfl 193 i0 6 underlying190 hi hz1 g off 0 cap (by simp[Act.eval,Act.put]) ⟨g,off+k*6,none⟩ (n-k) (cap-k) news (by simp[Act.eval,Act.put]) HL.out (HC.out _ (.inl rfl)) HO.out hroom.out cur HG.out HFit.out ?_;intro w3 cur3 hO3;have O3:Hid (Over w.drew w3 g 193 (off+0*6) news cur cur3):=hO3;clear hO3)|fail))
    all_goals
      have HF3:Hid (off+(n-k)*6+k*6<=cur3.size):=by
        have h3:=O3.out.size
        have h4:=HF.out
        show _<=_
        omega
      go_wp2_with (refine wpList_clear_sl _ rfl _ _ rfl _ _ 6 underlying190 zero_pw rfl (by simp[Value.cells,Value.oneCell']) g (off+(n-k)*6) k (cap-(n-k)) hk (by simp[Act.eval];omega) cur3 O3.out.row HF3.out ?_;intro w4 cur4 h3 h4 h5 h6)
      go_ret
      refine⟨rfl,⟨HL.out,.inr ⟨g,off,cap,cur4,rfl,h3,by omega,by unfold maxLen;omega,?_,λj u hu=>?_⟩⟩,?_⟩
      · have:=O3.out.size
        have:=HF.out
        omega
      · have hj:=(List.getElem?_eq_some_iff.1 hu).1
        rw[HL.out] at hj
        rw[h5 _ (by omega)]
        have:=O3.out.inn j u hu
        rwa [Nat.zero_mul,Nat.add_zero] at this
      · exact(⟨O3.out.grown.os,O3.out.grown.tape,O3.out.grown.output,O3.out.grown.size,O3.out.grown.block⟩:w.grownBy w3 (some g)).trans h6
end
end Go.Proofs.YtgamgomepdfgdaaGreat
