import Derived.Test.YtgamgomepdfgdaaGreatAM16
import Derived.Test.YtgamgomepdfgdaaGreatAM22
import Derived.Test.YtgamgomepdfgdaaGreatAM25
import Derived.Test.YtgamgomepdfgdaaGreatAM24
import Derived.Test.YtgamgomepdfgdaaGreatAM23
set_option maxRecDepth 100000
set_option maxHeartbeats 8000000
namespace Go.Proofs.YtgamgomepdfgdaaGreat
open Go.RowKit Go.Proofs.Tryz
section
variable{g:ByteArray->ByteArray}{c:Cfg}{ss:List Fl}{lr:List Lr}{xs:List Value}{m n0 yb:Nat}{R' S:Nat->Prop}{σ σ':Sg}{fv lv:Value}{w w':World}
structure li (w:World)(R:Nat->Prop)(x:Lr):Prop where
 sl:∃a n cap,x.2=.slice a n cap
 ed:x.1.kind=1->0<x.1.edits.length/\Sl w 49 3 x.2 x.1.edits.length (x.1.edits.flatMap cE)/\∀q,x.2.ownBlock=some q->R q
theorem li.eds {R:Nat->Prop}{x:Lr}(h:li w R x):∃a n cap,x.2=.slice a n cap/\jZ w x.1 a n:=by
 obtain⟨a,n,cap,e⟩:=h.sl;refine⟨a,n,cap,e,λhk=>?_⟩;obtain⟨m,l,_⟩:=h.ed hk;obtain⟨b,d,k,f,_⟩:=l.addr m;have c:=l;rw[f] at c;rw[e] at f;injection f with e1 e2 e3
 have g:∀i (hi:i<x.1.edits.length) j (u:Value),j<3->(cE x.1.edits[i])[j]? =some u->w.cell? ⟨b,d+i*3+j,none⟩=some u:=λi hi j u hj hu=>by
  have:=c.cell (j:=i*3+j) (u:=u) (by rw[aq cE 3 (λ_=>rfl) x.1.edits i j hi hj];exact hu);rw[J_];exact this
 exact⟨b,d,e1,e2,c.lt rfl,λi hi=>g i hi 0 _ (by decide) rfl,λi hi=>g i hi 1 _ (by decide) rfl,λi hi=>g i hi 2 _ (by decide) rfl⟩
theorem li.kept {R:Nat->Prop}{x:Lr}(h:li w R x)(hk:∀k,R k->w'.heap[k]? =w.heap[k]?)(hR:∀k,R k->R' k):li w' R' x:=
 ⟨h.sl,λhx=>⟨(h.ed hx).1,(h.ed hx).2.1.kept λq hq=>hk q ((h.ed hx).2.2 q hq),λq hq=>hR q ((h.ed hx).2.2 q hq)⟩⟩
structure bi (w:World)(R:Nat->Prop)(yb:Nat)(c:Cfg)(σ:Sg)(fv:Value)(ss:List Fl):Prop where
 ex:∃lv lr,bJ w yb c fv lr (bs σ.T) (!σ.up) σ.br σ.keep lv/\lr.map Prod.fst=σ.rs/\(∀x∈lr,nI x/\li w R x)/\∀q,lv.ownBlock=some q->R q
 fs:Sl w 80 2 fv ss.length (ss.flatMap cF)
 ff:∀q,fv.ownBlock=some q->R q
 fy:R yb
 rl:∀k,R k->k<w.heap.size
theorem bi.kept {R:Nat->Prop}(h:bi w R yb c σ fv ss)(hs:w.heap.size<=w'.heap.size)(hk:∀k,R k->w'.heap[k]? =w.heap[k]?):bi w' R yb c σ fv ss:=by
 obtain⟨g,f,a,e,d,b⟩:=h.ex;exact⟨⟨g,f,⟨(hk yb h.fy).trans a.box,a.row.kept λq hq=>hk q (b q hq)⟩,e,λx hm=>⟨(d x hm).1,(d x hm).2.kept hk λ_ h=>h⟩,b⟩,h.fs.kept λq hq=>hk q (h.ff q hq),h.ff,h.fy,λk a=>h_ (h.rl k a) hs⟩
theorem bi.later {R:Nat->Prop}(h:bi w R yb c σ fv ss)(hb:Bl w w'):bi w' R yb c σ fv ss:=h.kept hb.size λk hk=>hb.block k (h.rl k hk)
theorem bi.only {R:Nat->Prop}(h:bi w R yb c σ fv ss)(hO:ai w w' S)(hn:∀k,R k->¬S k):bi w' R yb c σ fv ss:=h.kept hO.size λk hk=>hO.block k (h.rl k hk) (hn k hk)
structure lj (ss:List Fl)(g:ByteArray->ByteArray)(n0:Nat):Prop where
 told:fE ss g
 len:ss.length<=n0
 ok:∀f∈ss,dy f=true
 n:n0<1048576000
theorem bi.fits {R:Nat->Prop}(h:bi w R yb c σ fv ss)(hS:lj ss g n0)(hσ:σ.Ok c g)(e:lr.map Prod.fst=σ.rs)(hx:∀x∈lr,nI x/\li w R x)(hn:σ.rs.length<1048576):dw w c g n0 fv lr:=by
 have a:lr.length<1048576:=by rw[<-e,d_] at hn;exact hn
 have b:=hS.n;exact⟨⟨ss,h.fs,hS.told,hS.len,hS.ok⟩,λx hm=>⟨(hx x hm).1,λhk=>((hx x hm).2.ed hk).2.1⟩,by rw[e];exact hσ.fits,a,by omega⟩
def fZ (w w':World)(e:Ending)(R:Nat->Prop)(yb:Nat)(c:Cfg)(fv:Value)(ss:List Fl)(a:Int×Sg):Prop:=e=.returned (I a.1)/\∃R',bi w' R' yb c a.2 fv ss/\iB w w' R R'
theorem fZ.same {R:Nat->Prop}{k:Int}(h:bi w R yb c σ fv ss)(hb:Bl w w'):fZ w w' (.returned (I k)) R yb c fv ss (k,σ):=⟨rfl,R,h.later hb,iB.of_below hb⟩
theorem bi.noted {R E:Nat->Prop}{lr':List Lr}(h:bi w R yb c σ fv ss)(hl:∀q,lv.ownBlock=some q->R q)(hrow:Sl w 168 5 lv m xs)(hN:rY w w' yb c fv lr' (bs σ'.T) (!σ'.up) σ'.br σ'.keep lv)(e':lr'.map Prod.fst=σ'.rs)(hx:∀x∈lr,nI x/\li w R x)(hlr:∀x∈lr',x∈lr\/(nI x/\li w E x))(hE:∀k,E k->k<w.heap.size/\¬R k):∃R',bi w' R' yb c σ' fv ss/\ai w w' R/\∀k,R' k->R k\/E k\/w.heap.size<=k:=by
 obtain⟨⟨p,f,n⟩,i⟩:=hN;have r:=i.size
 have d:ai w w' R:=i.mono λk a=>by
  rcases a with a|a
  ·rw[a];exact h.fy
  exact hl k a
 obtain⟨v,u,g,_⟩:=h.ex;refine⟨λk=>R k\/E k\/(w.heap.size<=k/\k<w'.heap.size),⟨⟨p,lr',f,e',λx j=>?_,λq hq=>?_⟩,?_,λq hq=>.inl (h.ff q hq),.inl h.fy,λk a=>?_⟩,d,λk a=>?_⟩
 ·rcases hlr x j with j|⟨s,t⟩
  ·refine⟨(hx x j).1,?_⟩;have b:=(hx x j).2;refine⟨b.sl,λa=>⟨(b.ed a).1,(b.ed a).2.1.kept λq hq=>i.block q ((b.ed a).2.1.lt hq) λe=>?_,λq hq=>.inl ((b.ed a).2.2 q hq)⟩⟩;rcases e with e|e
   ·exact(b.ed a).2.1.ne g.box (by decide) (by rw[hq,e])
   exact(b.ed a).2.1.apart hrow (by decide) hq e
  exact⟨s,t.kept (λk hEk=>d.block k (hE k hEk).1 (hE k hEk).2) λk a=>.inr (.inl a)⟩
 ·rcases n with l|⟨y,l,o⟩
  ·rw[l] at hq;exact .inl (hl q hq)
  exact .inr (.inr ⟨by rw[l] at hq;cases hq;exact o,f.row.lt hq⟩)
 ·refine h.fs.kept λq hq=>i.block q (h.fs.lt hq) λe=>?_;rcases e with e|e
  ·exact h.fs.ne g.box (by decide) (by rw[hq,e])
  exact h.fs.apart hrow (by decide) hq e
 ·rcases a with a|a|a
  ·exact h_ (h.rl k a) r
  ·exact h_ (hE k a).1 r
  exact a.2
 rcases a with a|a|a
 ·exact .inl a
 ·exact .inr (.inl a)
 exact .inr (.inr a.1)
variable{W:World}
theorem jk (R E:Nat->Prop)(yb:Nat)(c:Cfg)(σ:Sg)(fv:Value)(ss:List Fl)(r:Rc)(ea:Option Addr)(en ec:Nat)(W:World)(h:bi W R yb c σ fv ss)(g:ByteArray->ByteArray)(hσ:σ.Ok c g)(hu:σ.up=true)(hn:σ.rs.length<1048576)(hr:r.ok)(hlr:nI (r,.slice ea en ec))(hin:li W E (r,.slice ea en ec))(hE:∀k,E k->k<W.heap.size/\¬R k):
 c_ 91 #[Px yb,.agg #[I r.kind,I r.lane,I r.num,.bool r.pass,.slice ea en ec]] W λe w'=>e=.returned (I (σ.write r).1)/\∃R',bi w' R' yb c (σ.write r).2 fv ss/\ai W w' R/\∀k,R' k->R k\/E k\/W.heap.size<=k:=by
 obtain⟨w,l,j,e,d,t⟩:=h.ex;have n:l.length<1048576:=by rw[<-e,d_] at hn;exact hn
 have v:(l++[((r,.slice ea en ec):Lr)]).map Prod.fst=σ.rs++[r]:=by rw[w_,e];rfl
 have i:∀x∈l++[((r,.slice ea en ec):Lr)],x∈l\/(nI x/\li W E x):=λx d=>by
  rcases E_.1 d with d|d
  ·exact .inl d
  obtain rfl:=o_.1 d;exact .inr ⟨hlr,hin⟩
 have b:=j.row;rw[hu] at j;by_cases f:σ.br=false
 ·have m:σ.write r=(0,{σ with rs:=σ.rs++[r]}):=by simp[Sg.write,f]
  rw[m];rw[f] at j;refine(CI yb c fv w l (bs σ.T) false σ.keep r ea en ec W j n).mono ?_;rintro _ w' ⟨rfl,a⟩;refine⟨rfl,h.noted t b (σ':={σ with rs:=σ.rs++[r]}) ?_ v d i hE⟩;rw[hu,f];exact a
 have f:σ.br=true:=by simpa using f
 rw[f] at j;have y:=hσ.upT hu;rw[y] at j;have z:=r.bytes_len;obtain⟨k,A⟩:∃k:Nat,(k:Int)=max 0 (min σ.keep r.bytes.length):=⟨(max 0 (min σ.keep r.bytes.length)).toNat,by omega⟩;obtain⟨B,C,u,o,p⟩:=hin.eds;injection o with o e2 _;subst o;subst e2;refine(zr yb c fv w l (bs []) false σ.keep r ea en ec W j n hr p k A).mono ?_;rintro _ w' ⟨rfl,a⟩;by_cases hkl:(r.bytes.length:Int)<=σ.keep
 ·have m:σ.write r=(8,{σ with rs:=σ.rs++[r],up:=false,T:=[],br:=false}):=by simp[Sg.write,f,hkl]
  rw[m];rcases a with ⟨_,a⟩|⟨q,_⟩
  ·exact⟨rfl,h.noted t b (σ':={σ with rs:=σ.rs++[r],up:=false,T:=[],br:=false}) a v d i hE⟩
  omega
 have m:σ.write r=(8,{σ with up:=false,T:=r.bytes.take σ.keep.toNat,br:=false}):=by simp[Sg.write,f,hkl]
 rw[m];have s:k=σ.keep.toNat:=by omega
 rcases a with ⟨q,_⟩|⟨_,a⟩
 ·omega
 refine⟨rfl,h.noted t b (σ':={σ with up:=false,T:=r.bytes.take σ.keep.toNat,br:=false}) ?_ e d (λx d=>.inl d) hE⟩;rw[<-s];by_cases h0:k=0
 ·rw[if_pos h0] at a;rw[h0,List.take_zero];exact a
 rw[if_neg h0] at a;exact a
theorem gR (kind num:Nat){p:Bool}:nI (⟨kind,0,num,p,[]⟩,Zn):=⟨⟨_,_,_,rfl⟩,λ_=>⟨rfl,rfl⟩⟩
theorem gS (W:World)(kind num:Nat)(hk:kind≠1){p:Bool}:li W (λ_=>False) (⟨kind,0,num,p,[]⟩,Zn):=⟨⟨_,_,_,rfl⟩,λh=>absurd h hk⟩
theorem fZ.of {R E:Nat->Prop}{k:Int}(hb:Bl w W)(hP:bi w' R' yb c σ fv ss)(hO:ai W w' R)(hR:∀k,R' k->R k\/E k\/W.heap.size<=k)(hE:∀k,E k->w.heap.size<=k):fZ w w' (.returned (I k)) R yb c fv ss (k,σ):=by
 refine⟨rfl,R',hP,(ai.of_below hb).trans hO λ_ h=>.inl h,λk hk=>?_⟩;rcases hR k hk with h|h|h
 ·exact .inl h
 ·exact .inr (hE k h)
 exact .inr (e_ hb.size h)
theorem Bn (R:Nat->Prop)(yb:Nat)(c:Cfg)(σ:Sg)(fv:Value)(ss:List Fl)(id err:Int)(w:World)(h:bi w R yb c σ fv ss)(g:ByteArray->ByteArray)(n0:Nat)(hS:lj ss g n0)(hσ:σ.Ok c g)(hc:c.Ok)(hn:σ.rs.length<1048576)(he:kX (Ts.all c g σ.rs) id err):
 c_ 41 #[Px yb,I id] w λe w'=>fZ w w' e R yb c fv ss (σ.cancel id err):=by
 obtain⟨o,n,i,e,t,u⟩:=h.ex;have p:=bi.fits h hS hσ e t hn;cases hu:σ.up
 ·have b:σ.cancel id err=(8,σ):=by simp[Sg.cancel,Sg.act,hu]
  rw[b];rw[hu] at i;refine(qz yb c fv o n _ σ.br σ.keep id w i).mono ?_;rintro _ w' ⟨rfl,rfl⟩;exact .same h (n_ _ _)
 rw[hu] at i;have q:=(hσ.fits.inv hc).1;refine(uf yb c fv o n _ σ.br σ.keep id (σ.write ⟨2,0,id.toNat,false,[]⟩).1 (λW w'=>∃j,bi w' j yb c (σ.write ⟨2,0,id.toNat,false,[]⟩).2 fv ss/\ai W w' R/\∀k,j k->R k\/False\/W.heap.size<=k) w i g n0 p hc (Ts.all c g σ.rs) (by rw[e]) ?_).mono ?_
 ·intro a W d;obtain⟨f,m⟩:=km (c:=c) (g:=g) (err:=0) (.inl ⟨a,rfl⟩) q rfl;have:=jk R (λ_=>False) yb c σ fv ss ⟨2,0,id.toNat,false,[]⟩ none 0 0 W (h.later d) g hσ hu hn (f.ok hc) (gR _ _) (gS _ _ _ (by decide)) (λ_ h=>h.elim);rw[<-m] at this;exact this
 rintro _ w' (⟨a,rfl,d⟩|⟨a,rfl,W,d,j,s,r,l⟩)
 ·obtain rfl:=mi he (.inr ⟨a,rfl⟩);have b:σ.cancel id 5=(5,σ):=by simp[Sg.cancel,Sg.act,hu]
  rw[b];exact .same h d
 obtain rfl:=mi he (.inl ⟨a,rfl⟩);have b:σ.cancel id 0=σ.write ⟨2,0,id.toNat,false,[]⟩:=by simp[Sg.cancel,Sg.act,hu]
 rw[b];exact fZ.of d s r l (λ_ h=>h.elim)
theorem su (R:Nat->Prop)(yb:Nat)(c:Cfg)(σ:Sg)(fv:Value)(ss:List Fl)(w:World)(h:bi w R yb c σ fv ss)(g:ByteArray->ByteArray)(n0:Nat)(hS:lj ss g n0)(hσ:σ.Ok c g)(hc:c.Ok)(hn:σ.rs.length<1048576):
 c_ 57 #[Px yb] w λe w'=>e=.returned (gj (σ.poll c g))/\Bl w w':=by
 obtain⟨f,d,a,e,k,n⟩:=h.ex;have i:=bi.fits h hS hσ e k hn
 have j:(Ts.all c g σ.rs).outs.length<=σ.rs.length:=by
  have l:=(hσ.fits.inv hc).1.cnt;have m:=(hσ.fits.inv hc).2.ids;omega
 cases hu:σ.up
 ·rw[hu] at a;refine(ub yb c fv f d _ σ.br σ.keep w a).mono ?_;rintro _ w' ⟨rfl,b⟩;exact⟨by simp[Sg.poll,hu,gj],b⟩
 rw[hu] at a;by_cases hlt:(Ts.all c g σ.rs).acked<(Ts.all c g σ.rs).outs.length
 ·refine(ud yb c fv f d _ σ.br σ.keep w a g n0 i hc (Ts.all c g σ.rs) (by rw[e]) hlt (by omega)).mono ?_;rintro _ w' ⟨rfl,b⟩;exact⟨by simp[Sg.poll,hu,hlt,gj],b⟩
 refine(ue yb c fv f d _ σ.br σ.keep w a g n0 i hc (by rw[e];have:=(hσ.fits.inv hc).1.ack;omega)).mono ?_;rintro _ w' ⟨rfl,b⟩;exact⟨by simp[Sg.poll,hu,hlt,gj],b⟩
theorem Fj (R:Nat->Prop)(yb:Nat)(c:Cfg)(σ:Sg)(fv:Value)(ss:List Fl)(m err:Int)(w:World)(h:bi w R yb c σ fv ss)(g:ByteArray->ByteArray)(n0:Nat)(hS:lj ss g n0)(hσ:σ.Ok c g)(hc:c.Ok)(hn:σ.rs.length<1048576)(he:iq (Ts.all c g σ.rs) m err):
 c_ 93 #[Px yb,I m] w λe w'=>fZ w w' e R yb c fv ss (σ.ack m err):=by
 have a:=su R yb c σ fv ss w h g n0 hS hσ hc hn;unfold gj at a;cases hu:σ.up
 ·have d:σ.ack m err=(8,σ):=by simp[Sg.ack,Sg.act,hu]
  have f:σ.poll c g=(0,0,0,8):=by simp[Sg.poll,hu]
  rw[f] at a;rw[d];refine(se yb m 8 0 0 0 (by decide) w a).mono ?_;rintro _ w' ⟨rfl,b⟩;exact .same h b
 by_cases hlt:(Ts.all c g σ.rs).acked<(Ts.all c g σ.rs).outs.length
 ·have f:σ.poll c g=(((Ts.all c g σ.rs).acked:Int)+1,(((Ts.all c g σ.rs).outs[(Ts.all c g σ.rs).acked]'hlt).1:Int),(((Ts.all c g σ.rs).outs[(Ts.all c g σ.rs).acked]'hlt).2:Int),0):=by simp[Sg.poll,hu,hlt]
  rw[f] at a;by_cases hm:m=((Ts.all c g σ.rs).acked:Int)+1
  ·obtain rfl:=ks he (.inl ⟨⟨hlt,hm⟩,rfl⟩);obtain⟨i,n⟩:=kq (c:=c) (g:=g) he (by have p:=(hσ.fits.inv hc).1.cnt;have q:=(hσ.fits.inv hc).2.ids;omega) rfl;have d:σ.ack m 0=σ.write ⟨6,0,m.toNat,false,[]⟩:=by simp[Sg.ack,Sg.act,hu]
   rw[d];rw[<-hm] at a;refine(Bi yb m (σ.write ⟨6,0,m.toNat,false,[]⟩).1 _ _ (λW w'=>∃j,bi w' j yb c (σ.write ⟨6,0,m.toNat,false,[]⟩).2 fv ss/\ai W w' R/\∀k,j k->R k\/False\/W.heap.size<=k) w a λW b=>?_).mono ?_
   ·have:=jk R (λ_=>False) yb c σ fv ss ⟨6,0,m.toNat,false,[]⟩ none 0 0 W (h.later b) g hσ hu hn (i.ok hc) (gR _ _) (gS _ _ _ (by decide)) (λ_ h=>h.elim);rw[<-n] at this;exact this
   rintro _ w' ⟨rfl,W,b,j,a,o,l⟩;exact fZ.of b a o l (λ_ h=>h.elim)
  obtain rfl:=ks he (.inr ⟨λh=>hm h.2,rfl⟩);have d:σ.ack m 5=(5,σ):=by simp[Sg.ack,Sg.act,hu]
  rw[d];refine(Bj yb m _ _ _ (λh=>hm h.symm) w a).mono ?_;rintro _ w' ⟨rfl,b⟩;exact .same h b
 obtain rfl:=ks he (.inr ⟨λh=>hlt h.1,rfl⟩);have d:σ.ack m 5=(5,σ):=by simp[Sg.ack,Sg.act,hu]
 have f:σ.poll c g=(0,0,0,5):=by simp[Sg.poll,hu,hlt]
 rw[f] at a;rw[d];refine(se yb m 5 0 0 0 (by decide) w a).mono ?_;rintro _ w' ⟨rfl,b⟩;exact .same h b
theorem Bm (R:Nat->Prop)(yb:Nat)(c:Cfg)(σ:Sg)(fv:Value)(ss:List Fl)(id lane err:Int)(es:List Ed)(ea:Option Addr)(ec:Nat)(w:World)(h:bi w R yb c σ fv ss)(g:ByteArray->ByteArray)(n0:Nat)(hS:lj ss g n0)(hσ:σ.Ok c g)(hc:c.Ok)(hn:σ.rs.length<1048576)(he:dc c (Ts.all c g σ.rs) id lane es err)(hE:aH w (.slice ea es.length ec) es)(hen:es.length<8796093022208):
 c_ 87 #[Px yb,I id,I lane,.slice ea es.length ec] w λe w'=>fZ w w' e R yb c fv ss (σ.sub id lane es err):=by
 obtain⟨u,t,f,e,B,C⟩:=h.ex;have v:=bi.fits h hS hσ e B hn;cases hu:σ.up
 ·have b:σ.sub id lane es err=(8,σ):=by simp[Sg.sub,Sg.act,hu]
  rw[b];rw[hu] at f;refine(qC yb c fv u t _ σ.br σ.keep id lane ea es.length ec w f).mono ?_;rintro _ w' ⟨rfl,rfl⟩;exact .same h (n_ _ _)
 rw[hu] at f;refine(ug yb c fv u t _ σ.br σ.keep id lane (σ.write ⟨1,lane.toNat,id.toNat,false,es⟩).1 es ea ec (λW d w'=>∃l,bi w' l yb c (σ.write ⟨1,lane.toNat,id.toNat,false,es⟩).2 fv ss/\ai W w' R/\∀k,l k->R k\/k=d\/W.heap.size<=k) w f g n0 v hc (Ts.all c g σ.rs) (by rw[e]) hE hen ?_).mono ?_
 ·intro h0 W d i a;obtain⟨j,n,p,A⟩:=ko (g:=g) h0 rfl
  have r:bT es:=by
   rcases h0 with ⟨_,h⟩|⟨_,_,h⟩|⟨_,_,_,h⟩|⟨h,_⟩
   ·omega
   ·omega
   ·omega
   exact h.2.2.2.2
  have z:w.heap.size<=d/\d<W.heap.size:=⟨(f_ a d rfl).1,(f_ a d rfl).2⟩
  have:=jk R (λk=>k=d) yb c σ fv ss ⟨1,lane.toNat,id.toNat,false,es⟩ (some ⟨d,0,none⟩) es.length es.length W (h.later i) g hσ hu hn (j.ok hc) ⟨⟨_,_,_,rfl⟩,λh=>absurd rfl h⟩ ⟨⟨_,_,_,rfl⟩,λ_=>⟨by have:=r.1;show 0<es.length;omega,Sl.of_row a,λq hq=>by simpa[Value.ownBlock] using hq.symm⟩⟩ (λk hk=>by
   subst hk
   exact⟨z.2,λf=>by have:=h.rl k f;omega⟩)
  rw[<-n,<-p] at this;exact this
 rintro _ w' (⟨D,o,s,rfl,i⟩|⟨s,rfl,W,d,i,a,l,y,x,m⟩)
 ·obtain rfl:=qn he s;have b:σ.sub id lane es err=(err,σ):=by simp[Sg.sub,Sg.act,hu,o]
  rw[b];exact .same h i
 obtain rfl:=qn he s;have b:σ.sub id lane es 0=σ.write ⟨1,lane.toNat,id.toNat,false,es⟩:=by simp[Sg.sub,Sg.act,hu]
 rw[b];exact fZ.of i y x m (λk hk=>by rw[hk];exact(f_ a d rfl).1)
theorem bi.boxed {R:Nat->Prop}(h:bi w R yb c σ fv ss)(hl:∀q,lv.ownBlock=some q->R q)(hx:∀x∈lr,nI x/\li w R x)(hO:ai w w' (λj=>j=yb))(hR':bJ w' yb c fv lr (bs σ'.T) (!σ'.up) σ'.br σ'.keep lv)(hrow:Sl w 168 5 lv lr.length (lr.flatMap cL))(e':lr.map Prod.fst=σ'.rs):bi w' R yb c σ' fv ss:=by
 obtain⟨g,i,b,l⟩:=h.noted (E:=λ_=>False) hl hrow (σ':=σ') ⟨⟨lv,hR',.inl rfl⟩,hO.mono λ_ h=>.inl h⟩ e' hx (λx hx=>.inl hx) (λ_ h=>h.elim);obtain⟨f,d,a,_⟩:=h.ex;refine⟨⟨lv,lr,hR',e',λx hm=>⟨(hx x hm).1,(hx x hm).2.sl,λhk=>⟨((hx x hm).2.ed hk).1,((hx x hm).2.ed hk).2.1.kept λq hq=>hO.block q (((hx x hm).2.ed hk).2.1.lt hq) λe=>?_,((hx x hm).2.ed hk).2.2⟩⟩,hl⟩,h.fs.kept λq hq=>hO.block q (h.fs.lt hq) λe=>?_,h.ff,h.fy,λk hk=>h_ (h.rl k hk) hO.size⟩
 ·exact((hx x hm).2.ed hk).2.1.ne a.box (by decide) (by rw[hq,e])
 exact h.fs.ne a.box (by decide) (by rw[hq,e])
theorem CL (R:Nat->Prop)(yb:Nat)(c:Cfg)(σ:Sg)(fv:Value)(ss:List Fl)(k:Int)(w:World)(h:bi w R yb c σ fv ss):
 c_ 49 #[Px yb,I k] w λe w'=>fZ w w' e R yb c fv ss (σ.brk k):=by
 obtain⟨i,g,a,e,m,l⟩:=h.ex;cases hu:σ.up
 ·have d:σ.brk k=(8,σ):=by simp[Sg.brk,hu]
  rw[d];rw[hu] at a;refine(r7 yb c fv i g _ σ.br σ.keep k w a).mono ?_;rintro _ w' ⟨rfl,rfl⟩;exact .same h (n_ _ _)
 have d:σ.brk k=(0,{σ with br:=true,keep:=k}):=by simp[Sg.brk,hu]
 rw[d];have b:=a.row;rw[hu] at a;refine(wW yb c fv i g _ σ.br σ.keep k w a).mono ?_;rintro _ w' ⟨rfl,f,j⟩;refine⟨rfl,R,h.boxed l m j ?_ b e,j.mono λq hq=>(by rw[hq];exact h.fy),λ_ h=>.inl h⟩;show bJ w' yb c fv g (bs σ.T) (!σ.up) true k i;rw[hu];exact f
theorem zF (R:Nat->Prop)(yb:Nat)(c:Cfg)(σ:Sg)(fv:Value)(ss:List Fl)(w:World)(h:bi w R yb c σ fv ss)(g:ByteArray->ByteArray)(hσ:σ.Ok c g):
 c_ 51 #[Px yb] w λe w'=>fZ w w' e R yb c fv ss σ.crash:=by
 obtain⟨k,j,a,e,m,l⟩:=h.ex;cases hu:σ.up
 ·have d:σ.crash=(8,σ):=by simp[Sg.crash,hu]
  rw[d];rw[hu] at a;refine(rZ yb c fv k j _ σ.br σ.keep w a).mono ?_;rintro _ w' ⟨rfl,rfl⟩;exact .same h (n_ _ _)
 have d:σ.crash=(0,{σ with up:=false,T:=[],br:=false}):=by simp[Sg.crash,hu]
 rw[d];have b:=a.row;rw[hu,hσ.upT hu] at a;refine(wV yb c fv k j _ σ.br σ.keep w a).mono ?_;rintro _ w' ⟨rfl,f,i⟩;exact⟨rfl,R,h.boxed (σ':={σ with up:=false,T:=[],br:=false}) l m i f b e,i.mono λq hq=>(by rw[hq];exact h.fy),λ_ h=>.inl h⟩
theorem sw (R:Nat->Prop)(yb:Nat)(c:Cfg)(σ:Sg)(fv:Value)(ss:List Fl)(w:World)(h:bi w R yb c σ fv ss)(g:ByteArray->ByteArray)(hσ:σ.Ok c g)(hn:σ.rs.length<1048576):
 c_ 52 #[Px yb] w λe w'=>fZ w w' e R yb c fv ss σ.recover:=by
 obtain⟨j,i,b,e,a,n⟩:=h.ex;cases hu:σ.up
 ·have f:σ.recover=(0,{σ with rs:=σ.rs++[rc7],up:=true,T:=[],br:=false}):=by simp[Sg.recover,hu]
  rw[f];have d:=b.row;rw[hu,hσ.downB hu] at b;refine(oH yb c fv j i _ false σ.keep w b (by rw[<-e,d_] at hn;exact hn)).mono ?_;rintro _ w' ⟨rfl,k⟩
  obtain⟨p,m,l,o⟩:=h.noted (E:=λ_=>False) (σ':={σ with rs:=σ.rs++[rc7],up:=true,T:=[],br:=false}) n d k (by rw[w_,e];rfl) a (λx a=>by
   rcases E_.1 a with a|a
   ·exact .inl a
   obtain rfl:=o_.1 a
   exact .inr ⟨gR 7 0,gS w 7 0 (by decide)⟩) (λ_ h=>h.elim)
  exact fZ.of (n_ _ _) m l o (λ_ h=>h.elim)
 have f:σ.recover=(9,σ):=by simp[Sg.recover,hu]
 rw[f];rw[hu] at b;refine(sd yb c fv j i _ σ.br σ.keep w b).mono ?_;rintro _ w' ⟨rfl,rfl⟩;exact .same h (n_ _ _)
theorem Ee (R:Nat->Prop)(yb:Nat)(c:Cfg)(σ:Sg)(fv:Value)(ss:List Fl)(w:World)(h:bi w R yb c σ fv ss)(g:ByteArray->ByteArray)(hσ:σ.Ok c g)(hc:c.Ok)(hn:σ.rs.length<1048576):
 c_ 143 #[Px yb] w λe w'=>e=.returned (.string (bs (bq σ.rs++σ.T)))/\Bl w w':=by
 obtain⟨k,j,b,e,i,l⟩:=h.ex;have a:=hσ.fits.ok hc;have d:=iQ a;have f:=nu hσ.torn;rw[<-e];refine Fi yb c fv k j σ.T _ σ.br σ.keep w b (λx hm=>⟨a x.1 (by rw[<-e];exact x_ hm),(i x hm).2.eds⟩) (by rw[<-e,d_] at hn;exact hn) (by rw[e];omega)
theorem CN (R:Nat->Prop)(yb:Nat)(c:Cfg)(σ:Sg)(fv:Value)(ss:List Fl)(w:World)(h:bi w R yb c σ fv ss)(g:ByteArray->ByteArray)(hσ:σ.Ok c g)(hc:c.Ok)(hn:σ.rs.length<1048576):
 c_ 42 #[Px yb] w λe w'=>fZ w w' e R yb c fv ss σ.pump:=by
 obtain⟨j,i,a,e,o,n⟩:=h.ex;cases hu:σ.up
 ·have d:σ.pump=(8,σ):=by simp[Sg.pump,Sg.act,hu]
  rw[d];rw[hu] at a;refine(uo yb c fv j i _ σ.br σ.keep w a).mono ?_;rintro _ w' ⟨rfl,rfl⟩;exact .same h (n_ _ _)
 rw[hu] at a;have d:σ.pump=σ.write ⟨3,0,0,false,[]⟩:=by simp[Sg.pump,Sg.act,hu]
 rw[d];refine(zw yb c fv j i _ σ.br σ.keep (σ.write ⟨3,0,0,false,[]⟩).1 (λw'=>∃b,bi w' b yb c (σ.write ⟨3,0,0,false,[]⟩).2 fv ss/\ai w w' R/\∀k,b k->R k\/False\/w.heap.size<=k) w a ?_).mono ?_
 ·exact jk R (λ_=>False) yb c σ fv ss ⟨3,0,0,false,[]⟩ none 0 0 w h g hσ hu hn ((kt (s:=Ts.all c g σ.rs)).ok hc) (gR _ _) (gS _ _ _ (by decide)) (λ_ h=>h.elim)
 rintro _ w' ⟨rfl,b,m,l,f⟩;exact fZ.of (n_ _ _) m l f (λ_ h=>h.elim)
theorem CQ (R:Nat->Prop)(yb:Nat)(c:Cfg)(σ:Sg)(fv:Value)(ss:List Fl)(m err:Int)(w:World)(h:bi w R yb c σ fv ss)(g:ByteArray->ByteArray)(hσ:σ.Ok c g)(hc:c.Ok)(hn:σ.rs.length<1048576)(he:jf m err):
 c_ 47 #[Px yb,I m] w λe w'=>fZ w w' e R yb c fv ss (σ.tick m err):=by
 obtain⟨n,l,b,e,t,r⟩:=h.ex;cases hu:σ.up
 ·have a:σ.tick m err=(8,σ):=by simp[Sg.tick,Sg.act,hu]
  rw[a];rw[hu] at b;refine(um yb c fv n l _ σ.br σ.keep m w b).mono ?_;rintro _ w' ⟨rfl,rfl⟩;exact .same h (n_ _ _)
 rw[hu] at b;by_cases hm:1<=m/\m<=1000
 ·obtain rfl:=kp he (.inl ⟨hm,rfl⟩);obtain⟨d,j⟩:=iR (c:=c) (s:=Ts.all c g σ.rs) he rfl;have a:σ.tick m 0=σ.write ⟨5,0,m.toNat,false,[]⟩:=by simp[Sg.tick,Sg.act,hu]
  rw[a];refine(zy yb c fv n l _ σ.br σ.keep m (σ.write ⟨5,0,m.toNat,false,[]⟩).1 (λw'=>∃f,bi w' f yb c (σ.write ⟨5,0,m.toNat,false,[]⟩).2 fv ss/\ai w w' R/\∀k,f k->R k\/False\/w.heap.size<=k) w b hm ?_).mono ?_
  ·have:=jk R (λ_=>False) yb c σ fv ss ⟨5,0,m.toNat,false,[]⟩ none 0 0 w h g hσ hu hn (d.ok hc) (gR _ _) (gS _ _ _ (by decide)) (λ_ h=>h.elim);rw[<-j] at this;exact this
  rintro _ w' ⟨rfl,f,p,o,i⟩;exact fZ.of (n_ _ _) p o i (λ_ h=>h.elim)
 obtain rfl:=kp he (.inr ⟨hm,rfl⟩);have a:σ.tick m 7=(7,σ):=by simp[Sg.tick,Sg.act,hu]
 rw[a];refine(zx yb c fv n l _ σ.br σ.keep m w b hm).mono ?_;rintro _ w' ⟨rfl,q⟩;exact .same h q
theorem sx (R:Nat->Prop)(yb:Nat)(c:Cfg)(σ:Sg)(fv:Value)(ss:List Fl)(num err:Int)(pass:Bool)(w:World)(h:bi w R yb c σ fv ss)(g:ByteArray->ByteArray)(n0:Nat)(hS:lj ss g n0)(hσ:σ.Ok c g)(hc:c.Ok)(hn:σ.rs.length<1048576)(he:kW (Ts.all c g σ.rs) num err):
 c_ 45 #[Px yb,I num,.bool pass] w λe w'=>fZ w w' e R yb c fv ss (σ.answer num pass err):=by
 obtain⟨p,o,i,e,v,x⟩:=h.ex;have q:=bi.fits h hS hσ e v hn;cases hu:σ.up
 ·have b:σ.answer num pass err=(8,σ):=by simp[Sg.answer,Sg.act,hu]
  rw[b];rw[hu] at i;refine(qE yb c fv p o _ σ.br pass σ.keep num w i).mono ?_;rintro _ w' ⟨rfl,rfl⟩;exact .same h (n_ _ _)
 rw[hu] at i;obtain⟨r,l⟩:=hσ.fits.inv hc;have u:=l.begun;refine(ul yb c fv p o _ σ.br pass σ.keep num (σ.write ⟨4,0,num.toNat,pass,[]⟩).1 (λW w'=>∃j,bi w' j yb c (σ.write ⟨4,0,num.toNat,pass,[]⟩).2 fv ss/\ai W w' R/\∀k,j k->R k\/False\/W.heap.size<=k) w i g n0 q hc (Ts.all c g σ.rs) (by rw[e]) ?_).mono ?_
 ·intro a W d;obtain⟨f,n⟩:=je (c:=c) (err:=0) (pass:=pass) (.inl ⟨a,rfl⟩) r (by omega) rfl;have:=jk R (λ_=>False) yb c σ fv ss ⟨4,0,num.toNat,pass,[]⟩ none 0 0 W (h.later d) g hσ hu hn (f.ok hc) (gR _ _) (gS _ _ _ (by decide)) (λ_ h=>h.elim);rw[<-n] at this;exact this
 rintro _ w' (⟨a,rfl,d⟩|⟨a,rfl,W,d,j,t,s,m⟩)
 ·obtain rfl:=mj he (.inr ⟨a,rfl⟩);have b:σ.answer num pass 6=(6,σ):=by simp[Sg.answer,Sg.act,hu]
  rw[b];exact .same h d
 obtain rfl:=mj he (.inl ⟨a,rfl⟩);have b:σ.answer num pass 0=σ.write ⟨4,0,num.toNat,pass,[]⟩:=by simp[Sg.answer,Sg.act,hu]
 rw[b];exact fZ.of d t s m (λ_ h=>h.elim)
def uq (w':World)(e:Ending)(c:Cfg)(g:ByteArray->ByteArray)(σ:Sg):Prop:=(σ.up=true/\∃v tl,e=.returned (.tuple #[v,I 0])/\nK w' v (Ts.all c g σ.rs).main tl)\/(σ.up=false/\e=.returned (.tuple #[Zn,I 8]))
def ur (w':World)(e:Ending)(c:Cfg)(g:ByteArray->ByteArray)(σ:Sg):Prop:=(σ.up=true/\∃v gs,e=.returned (.tuple #[v,I 0])/\pr w' v ((Ts.all c g σ.rs).segs.map dj) gs)\/(σ.up=false/\e=.returned (.tuple #[Zn,I 8]))
def qG (w':World)(e:Ending)(c:Cfg)(g:ByteArray->ByteArray)(n:Nat)(σ:Sg):Prop:=(σ.up=true/\∃v js,e=.returned (.tuple #[v,I 0])/\sk w' ((Ts.all c g σ.rs).top n) v (Ts.all c g σ.rs).jobs js)\/(σ.up=false/\e=.returned (.tuple #[Zn,I 8]))
def zG (w':World)(e:Ending)(c:Cfg)(g:ByteArray->ByteArray)(n:Nat)(σ:Sg):Prop:=(σ.up=true/\∃v,e=.returned (.tuple #[v,I 0])/\cu w' (σ.top c g n) v (Ts.all c g σ.rs).tip)\/(σ.up=false/\e=.returned (.tuple #[Zn,I 8]))
theorem CR (R:Nat->Prop)(yb:Nat)(c:Cfg)(σ:Sg)(fv:Value)(ss:List Fl)(w:World)(h:bi w R yb c σ fv ss)(g:ByteArray->ByteArray)(n0:Nat)(hS:lj ss g n0)(hσ:σ.Ok c g)(hc:c.Ok)(hn:σ.rs.length<1048576):
 c_ 136 #[Px yb] w λe w'=>uq w' e c g σ/\Bl w w':=by
 obtain⟨d,b,a,e,j,k⟩:=h.ex;have f:=bi.fits h hS hσ e j hn;cases hu:σ.up
 ·rw[hu] at a;refine(ui yb c fv d b _ σ.br σ.keep w a).mono ?_;rintro _ w' ⟨rfl,rfl⟩;exact⟨.inr ⟨hu,rfl⟩,n_ _ _⟩
 rw[hu] at a;refine(zB yb c fv d b _ σ.br σ.keep w a g n0 f hc).mono ?_;rintro _ w' ⟨h,i⟩;rw[e] at h;exact⟨.inl ⟨hu,h⟩,i⟩
theorem Bo (R:Nat->Prop)(yb:Nat)(c:Cfg)(σ:Sg)(fv:Value)(ss:List Fl)(w:World)(h:bi w R yb c σ fv ss)(g:ByteArray->ByteArray)(n0:Nat)(hS:lj ss g n0)(hσ:σ.Ok c g)(hc:c.Ok)(hn:σ.rs.length<1048576):
 c_ 140 #[Px yb] w λe w'=>ur w' e c g σ/\Bl w w':=by
 obtain⟨d,b,a,e,j,k⟩:=h.ex;have f:=bi.fits h hS hσ e j hn;cases hu:σ.up
 ·rw[hu] at a;refine(si yb c fv d b _ σ.br σ.keep w a).mono ?_;rintro _ w' ⟨rfl,rfl⟩;exact⟨.inr ⟨hu,rfl⟩,n_ _ _⟩
 rw[hu] at a;refine(xc yb c fv d b _ σ.br σ.keep w a g n0 f hc).mono ?_;rintro _ w' ⟨h,i⟩;rw[e] at h;exact⟨.inl ⟨hu,h⟩,i⟩
theorem zE (R:Nat->Prop)(yb:Nat)(c:Cfg)(σ:Sg)(fv:Value)(ss:List Fl)(w:World)(h:bi w R yb c σ fv ss)(g:ByteArray->ByteArray)(n0:Nat)(hS:lj ss g n0)(hσ:σ.Ok c g)(hc:c.Ok)(hn:σ.rs.length<1048576):
 c_ 92 #[Px yb] w λe w'=>qG w' e c g n0 σ/\Bl w w':=by
 obtain⟨d,b,a,e,j,k⟩:=h.ex;have f:=bi.fits h hS hσ e j hn;cases hu:σ.up
 ·rw[hu] at a;refine(uj yb c fv d b _ σ.br σ.keep w a).mono ?_;rintro _ w' ⟨rfl,rfl⟩;exact⟨.inr ⟨hu,rfl⟩,n_ _ _⟩
 rw[hu] at a;refine(zC yb c fv d b _ σ.br σ.keep w a g n0 f hc).mono ?_;rintro _ w' ⟨h,i⟩;rw[e] at h;exact⟨.inl ⟨hu,h⟩,i⟩
theorem CO (R:Nat->Prop)(yb:Nat)(c:Cfg)(σ:Sg)(fv:Value)(ss:List Fl)(w:World)(h:bi w R yb c σ fv ss)(g:ByteArray->ByteArray)(n0:Nat)(hS:lj ss g n0)(hσ:σ.Ok c g)(hc:c.Ok)(hn:σ.rs.length<1048576):
 c_ 134 #[Px yb] w λe w'=>zG w' e c g n0 σ/\Bl w w':=by
 obtain⟨d,b,a,e,j,k⟩:=h.ex;have f:=bi.fits h hS hσ e j hn;cases hu:σ.up
 ·rw[hu] at a;refine(uk yb c fv d b _ σ.br σ.keep w a).mono ?_;rintro _ w' ⟨rfl,rfl⟩;exact⟨.inr ⟨hu,rfl⟩,n_ _ _⟩
 rw[hu] at a;refine(zA yb c fv d b _ σ.br σ.keep w a g n0 f hc).mono ?_;rintro _ w' ⟨h,i⟩;rw[e] at h;exact⟨.inl ⟨hu,h⟩,i⟩
theorem Bp (R:Nat->Prop)(yb:Nat)(c:Cfg)(σ:Sg)(fv:Value)(ss:List Fl)(w:World)(h:bi w R yb c σ fv ss)(g:ByteArray->ByteArray)(n0:Nat)(hS:lj ss g n0)(hσ:σ.Ok c g)(hc:c.Ok)(hn:σ.rs.length<1048576):
 c_ 138 #[Px yb] w λe w'=>qo w w' e c g σ/\Bl w w':=by
 obtain⟨d,b,a,e,j,k⟩:=h.ex;have f:=bi.fits h hS hσ e j hn;cases hu:σ.up
 ·rw[hu] at a;refine(sf yb c fv d b _ σ.br σ.keep w a).mono ?_;rintro _ w' ⟨rfl,rfl⟩;exact⟨.inr ⟨hu,rfl⟩,n_ _ _⟩
 rw[hu] at a;refine(xa yb c fv d b _ σ.br σ.keep w a g n0 f hc).mono ?_;rintro _ w' ⟨h,i⟩;rw[e] at h;exact⟨.inl ⟨hu,h⟩,i⟩
variable{s:Ts}{α:Type}{lane:α->Nat}
theorem vI:∀(l:List Sm) (acc:List Nat),l.Pairwise df->(bR l acc).Pairwise λa b=>a.1≠b.1
 |[],_,_=>List.Pairwise.nil
 |x::l,acc,h=>by
  rw[List.pairwise_cons] at h
  rw[dm,List.pairwise_append]
  refine⟨by unfold jb;split<;>simp,vI l _ h.2,λa ha b hb=>?_⟩
  refine iw (P:=λb=>a.1≠b.1) l _ (λz hz acc' y hy=>?_) b hb
  unfold jb at ha hy
  cases e1:x.job with
  |none=>rw[e1] at ha;cases ha
  |some j=>
   cases e2:z.job with
   |none=>rw[e2] at hy;cases hy
   |some k=>
    rw[e1] at ha
    rw[e2] at hy
    simp only[o_] at ha hy
    rw[ha,hy]
    exact h.1 z hz j k e1 e2
theorem zR {q:List α}:∀L,(rkG lane q L).Pairwise λa b=>lane a<=lane b
 |0=>by simp[rkG]
 |L+1=>by
  rw[gF,List.pairwise_append]
  refine⟨zR L,?_,λa ha b hb=>?_⟩
  ·refine List.Pairwise.imp_of_mem (R:=λ_ _=>True) (fun {a b} ha hb _=>?_) (List.pairwise_of_forall λ_ _=>trivial)
   have h1:=(Z_.1 ha).2
   have c:=(Z_.1 hb).2
   simp at h1 c
   omega
  have h1:=uW ha
  have c:=(Z_.1 hb).2
  simp at c
  omega
theorem vH {f:α->Nat}:∀{l l':List α},l.Perm l'->l.Pairwise (λa b=>f a<f b)->l'.Pairwise (λa b=>f a<f b)->l=l'
 |[],l',hp,_,_=>hp.nil_eq
 |a::l,[],hp,_,_=>absurd hp.symm.nil_eq (by simp)
 |a::l,b::l',hp,h1,h2=>by
  rw[List.pairwise_cons] at h1 h2
  have e:a=b:=by
   have c:=hp.mem_iff.1 D_;have d:=hp.mem_iff.2 D_;rcases R_.1 c with c|c
   ·exact c
   rcases R_.1 d with d|d
   ·exact d.symm
   have:=h1.1 b d;have:=h2.1 a c;omega
  subst e;rw[vH (List.Perm.cons_inv hp) h1.2 h2.2]
theorem Ts.Inv.rises (h:s.Inv c){l:List Jbt}(hp:l.Perm (bR s.segs []))(hs:l.Pairwise λa b=>¬b.1<a.1):l=s.jobs:=by
 have i:∀y∈bR s.segs [],y.1<s.begun+1:=iw _ _ λx hx a y hy=>by
  unfold jb at hy;cases e:x.job with
  |none=>rw[e] at hy;cases hy
  |some j=>
   rw[e] at hy;simp only[o_] at hy;rw[hy];have:=((h.sm x hx).job j e).2.2.2.1;show j.num<_;omega
 have k:=eX i;have g:=vI s.segs [] h.jobs;have d:∀{a b:Jbt},a.1≠b.1->b.1≠a.1:=λh e=>h e.symm;have m:=(List.Perm.pairwise_iff d hp).2 g;have n:=(List.Perm.pairwise_iff d k).2 g;refine vH (f:=λy=>y.1) (hp.trans k.symm) ((hs.and m).imp fun {a b} h=>?_) (((zR (s.begun+1)).and n).imp fun {a b} h=>?_)
 ·have:=h.1;have:=h.2;omega
 have:=h.1;have:=h.2;omega
theorem nN (hI:s.Inv c){w:World}{S:Nat->Prop}{yb mb n0:Nat}{q:List Pw}{sb:Nat}{qv ov:Value}{x:Xt}{tl:List Tp}{zs:List (Nat×Sm)}(h:aU w S yb mb n0 c s q sb qv ov x tl zs):zs.length<=8/\∀z∈zs,1<=z.2.l.length/\z.2.l.length<=8:=by
 have f:=dP hI.sm;have g:=hI.tr;have b:(zs.map Prod.snd).length=s.segs.length:=by rw[h.rest.train.snd]
 rw[d_] at b;refine⟨by omega,λz hz=>?_⟩;have a:z.2∈s.segs:=by rw[<-h.rest.train.snd];exact x_ hz
 have i:=mh a;have d:=(hI.sm z.2 a).ne;have j:z.2.l.length≠0:=λe=>d (I_ e);omega
theorem zT (Y:Nat->Prop)(xb mb n0 rb yb:Nat)(c:Cfg)(s:Ts)(L:List UInt8)(br:Bool)(keep:Int)(lv:Value)(w:World)(hU:dB w Y xb mb n0 rb yb c s L br keep lv)(hn:s.main.length<1048576000)(hm:∀y∈s.main,y.2.length<=8):
 c_ 66 #[Px xb] w λe w'=>(∃v l,e=.returned (.tuple #[v,I 0])/\l.map Prod.fst=s.main/\ix w.heap.size w' v l)/\Bl w w':=by
 obtain⟨q,H,F,E,C,f,u⟩:=hU.yard;obtain⟨r,K,p⟩:=f.z
 have j:c_ 104 #[Px yb] w λe w'=>(∃v l,e=.returned v/\bD v/\l.map Prod.fst=s.main/\ix w.heap.size w' v l)/\Bl w w':=by
  have g:=p.rest.main;have o:r.length=s.main.length:=by rw[<-g.fst,d_]
  refine(Ef yb _ C.mv r w f.box rfl g.row (λy f=>(g.ids y f).1) (by omega) (λy f=>hm y.1 (by rw[<-g.fst];exact x_ f))).mono ?_;rintro e t ⟨⟨J,m,rfl,d,n⟩,h⟩;obtain⟨a,k,rfl⟩:=ag n.row;exact⟨⟨_,m,rfl,⟨_,_,_,rfl⟩,d.trans g.fst,n⟩,h⟩
 have D:=hU.box.c 9 (Px rb);have G:=hU.run.c 0 (Px yb);clear hU f u p hn hm
 have b:c_ 103 #[Px xb,.func (.func 104) #[] #[]] w λe w'=>(∃v l,e=.returned (.tuple #[v,I 0])/\bD v/\l.map Prod.fst=s.main/\ix w.heap.size w' v l)/\Bl w w':=by
  go_enter func103,ntmps103;go_wp2_with fail;go_fit j;rintro e t ⟨⟨v,l,rfl,⟨x,B,A,rfl⟩,d⟩,h⟩;have i:=cK d;clear d j;go_wp2_with fail;refine bodyPost_ret (by simp[results,results103,go_sem];rfl) rfl ⟨⟨_,l,by rfl,⟨_,_,_,rfl⟩,i.out⟩,h⟩
 clear j;go_enter func66,ntmps66;go_wp2_with fail;go_fit b;rintro e t ⟨⟨v,l,rfl,⟨x,B,A,rfl⟩,d⟩,h⟩;have i:=cK d;clear d b;go_wp2_with fail;refine bodyPost_ret (by simp[results,results66,go_sem];rfl) rfl ⟨⟨_,l,by rfl,i.out⟩,h⟩
theorem xu (Y:Nat->Prop)(xb mb n0 rb yb:Nat)(c:Cfg)(s:Ts)(L:List UInt8)(br:Bool)(keep:Int)(lv:Value)(w:World)(hU:dB w Y xb mb n0 rb yb c s L br keep lv)(hI:s.Inv c):
 c_ 69 #[Px xb] w λe w'=>(∃v l,e=.returned (.tuple #[v,I 0])/\l.map Prod.fst=s.segs.map dj/\dq w.heap.size w' v l)/\Bl w w':=by
 obtain⟨q,C,A,y,F,m,p⟩:=hU.yard;obtain⟨D,G,g⟩:=m.z
 have j:c_ 106 #[Px yb] w λe w'=>(∃v l,e=.returned v/\bD v/\l.map Prod.fst=s.segs.map dj/\dq w.heap.size w' v l)/\Bl w w':=by
  obtain⟨d,h⟩:=nN hI g;refine(CT g d λz g=>(h z g).2).mono ?_;rintro e n ⟨⟨E,o,rfl,d,h⟩,f⟩;obtain⟨a,k,rfl⟩:=ag h.row;exact⟨⟨_,o,rfl,⟨_,_,_,rfl⟩,d,h⟩,f⟩
 have x:=hU.box.c 9 (Px rb);have B:=hU.run.c 0 (Px yb);clear hU m p g hI
 have b:c_ 105 #[Px xb,.func (.func 106) #[] #[]] w λe w'=>(∃v l,e=.returned (.tuple #[v,I 0])/\bD v/\l.map Prod.fst=s.segs.map dj/\dq w.heap.size w' v l)/\Bl w w':=by
  go_enter func105,ntmps105;go_wp2_with fail;go_fit j;rintro e n ⟨⟨v,l,rfl,⟨r,u,t,rfl⟩,d⟩,f⟩;have i:=cK d;clear d j;go_wp2_with fail;refine bodyPost_ret (by simp[results,results105,go_sem];rfl) rfl ⟨⟨_,l,by rfl,⟨_,_,_,rfl⟩,i.out⟩,f⟩
 clear j;go_enter func69,ntmps69;go_wp2_with fail;go_fit b;rintro e n ⟨⟨v,l,rfl,⟨r,u,t,rfl⟩,d⟩,f⟩;have i:=cK d;clear d b;go_wp2_with fail;refine bodyPost_ret (by simp[results,results69,go_sem];rfl) rfl ⟨⟨_,l,by rfl,i.out⟩,f⟩
theorem zS (Y:Nat->Prop)(xb mb n0 rb yb:Nat)(c:Cfg)(s:Ts)(L:List UInt8)(br:Bool)(keep:Int)(lv:Value)(w:World)(hU:dB w Y xb mb n0 rb yb c s L br keep lv)(hI:s.Inv c)(htop:s.top n0<4398046511104):
 c_ 70 #[Px xb] w λe w'=>(∃v l,e=.returned (.tuple #[v,I 0])/\l.map Prod.fst=s.jobs/\cj w.heap.size (s.top n0) w' v l)/\Bl w w':=by
 obtain⟨q,D,B,A,G,n,p⟩:=hU.yard;obtain⟨E,H,j⟩:=n.z
 have i:c_ 108 #[Px yb] w λe w'=>(∃v l,e=.returned v/\bD v/\l.map Prod.fst=s.jobs/\cj w.heap.size (s.top n0) w' v l)/\Bl w w':=by
  obtain⟨d,h⟩:=nN hI j;refine(Ei j d h htop).mono ?_;rintro e o ⟨⟨F,r,rfl,d,h,m⟩,f⟩;obtain⟨a,k,rfl⟩:=ag m.row;exact⟨⟨_,r,rfl,⟨_,_,_,rfl⟩,hI.rises d (List.pairwise_map.2 h),m⟩,f⟩
 have y:=hU.box.c 9 (Px rb);have C:=hU.run.c 0 (Px yb);clear hU n p j hI htop
 have b:c_ 107 #[Px xb,.func (.func 108) #[] #[]] w λe w'=>(∃v l,e=.returned (.tuple #[v,I 0])/\bD v/\l.map Prod.fst=s.jobs/\cj w.heap.size (s.top n0) w' v l)/\Bl w w':=by
  go_enter func107,ntmps107;go_wp2_with fail;go_fit i;rintro e o ⟨⟨v,l,rfl,⟨t,x,u,rfl⟩,d⟩,f⟩;have g:=cK d;clear d i;go_wp2_with fail;refine bodyPost_ret (by simp[results,results107,go_sem];rfl) rfl ⟨⟨_,l,by rfl,⟨_,_,_,rfl⟩,g.out⟩,f⟩
 clear i;go_enter func70,ntmps70;go_wp2_with fail;go_fit b;rintro e o ⟨⟨v,l,rfl,⟨t,x,u,rfl⟩,d⟩,f⟩;have g:=cK d;clear d b;go_wp2_with fail;refine bodyPost_ret (by simp[results,results70,go_sem];rfl) rfl ⟨⟨_,l,by rfl,g.out⟩,f⟩
def sH (w w':World)(e:Ending)(c:Cfg)(g:ByteArray->ByteArray)(σ:Sg):Prop:=(σ.up=true/\∃v l,e=.returned (.tuple #[v,I 0])/\l.map Prod.fst=(Ts.all c g σ.rs).main/\ix w.heap.size w' v l)\/(σ.up=false/\e=.returned (.tuple #[Zn,I 8]))
theorem Ek (X:Nat->Prop)(xb:Nat)(c:Cfg)(σ:Sg)(n:Nat)(g:ByteArray->ByteArray)(w:World)(hP:bd w X xb c σ n g)(hσ:σ.Ok c g)(hc:c.Ok)(hn:σ.rs.length<1048576):
 c_ 66 #[Px xb] w λe w'=>sH w w' e c g σ/\Bl w w':=by
 rcases hP with ⟨b,hP⟩|⟨b,hP⟩
 ·obtain⟨h,f,Y,q,r,d,m,o,_⟩:=hP.ex;obtain⟨i,a⟩:=hσ.fits.inv hc;have s:=a.ids;have t:=i.cnt;have u:=i.main;refine(zT Y xb h n q r c _ _ _ _ f w o (by omega) (hσ.fits.mainOk hc)).mono ?_;rintro e w' ⟨⟨v,l,rfl,j⟩,p⟩;exact⟨.inl ⟨b,v,l,rfl,j⟩,p⟩
 obtain⟨h,f,m,k,_⟩:=hP.ex;refine(tO xb h c _ f w k).mono ?_;rintro _ w' ⟨rfl,rfl⟩;exact⟨.inr ⟨b,rfl⟩,n_ _ _⟩
def pv (w w':World)(e:Ending)(c:Cfg)(g:ByteArray->ByteArray)(σ:Sg):Prop:=(σ.up=true/\∃v l,e=.returned (.tuple #[v,I 0])/\l.map Prod.fst=(Ts.all c g σ.rs).segs.map dj/\dq w.heap.size w' v l)\/(σ.up=false/\e=.returned (.tuple #[Zn,I 8]))
theorem CZ (X:Nat->Prop)(xb:Nat)(c:Cfg)(σ:Sg)(n:Nat)(g:ByteArray->ByteArray)(w:World)(hP:bd w X xb c σ n g)(hσ:σ.Ok c g)(hc:c.Ok):
 c_ 69 #[Px xb] w λe w'=>pv w w' e c g σ/\Bl w w':=by
 rcases hP with ⟨a,hP⟩|⟨a,hP⟩
 ·obtain⟨f,d,Y,p,q,b,k,m,_⟩:=hP.ex;obtain⟨j,_⟩:=hσ.fits.inv hc;refine(xu Y xb f n p q c _ _ _ _ d w m j).mono ?_;rintro e w' ⟨⟨v,l,rfl,h⟩,o⟩;exact⟨.inl ⟨a,v,l,rfl,h⟩,o⟩
 obtain⟨f,d,k,i,_⟩:=hP.ex;refine(rE xb f c _ d w i).mono ?_;rintro _ w' ⟨rfl,rfl⟩;exact⟨.inr ⟨a,rfl⟩,n_ _ _⟩
def sG (w w':World)(e:Ending)(c:Cfg)(g:ByteArray->ByteArray)(n:Nat)(σ:Sg):Prop:=(σ.up=true/\∃v l,e=.returned (.tuple #[v,I 0])/\l.map Prod.fst=(Ts.all c g σ.rs).jobs/\cj w.heap.size ((Ts.all c g σ.rs).top n) w' v l)\/(σ.up=false/\e=.returned (.tuple #[Zn,I 8]))
theorem Ej (X:Nat->Prop)(xb:Nat)(c:Cfg)(σ:Sg)(n:Nat)(g:ByteArray->ByteArray)(w:World)(hP:bd w X xb c σ n g)(hσ:σ.Ok c g)(hc:c.Ok)(hn:σ.rs.length<1048576)(h0:n<1048576000):
 c_ 70 #[Px xb] w λe w'=>sG w w' e c g n σ/\Bl w w':=by
 rcases hP with ⟨b,hP⟩|⟨b,hP⟩
 ·obtain⟨h,f,Y,q,r,d,m,o,_⟩:=hP.ex;obtain⟨k,a⟩:=hσ.fits.inv hc;have s:=a.ids;refine(zS Y xb h n q r c _ _ _ _ f w o k (by unfold Ts.top;omega)).mono ?_;rintro e w' ⟨⟨v,l,rfl,i⟩,p⟩;exact⟨.inl ⟨b,v,l,rfl,i⟩,p⟩
 obtain⟨h,f,m,j,_⟩:=hP.ex;refine(tM xb h c _ f w j).mono ?_;rintro _ w' ⟨rfl,rfl⟩;exact⟨.inr ⟨b,rfl⟩,n_ _ _⟩
end
section
variable{args:Array Value}{N N':Nat}{G G' K X:Nat->Prop}{σ τ:Sg}{w w' w1 w2:World}
structure Pq where
 wb:Nat
 xb:Nat
 yb:Nat
 bb:Nat
 c:Cfg
 fv:Value
 n:Nat
 g:ByteArray->ByteArray
 ss:List Fl
structure Pq.Ok (Q:Pq):Prop where
 c:Q.c.Ok
 ss:lj Q.ss Q.g Q.n
structure Pl (w:World)(Q:Pq)(G X R K:Nat->Prop)(σ τ:Sg)(N:Nat):Prop where
 box:Bx w Q.wb 38 #[Px Q.xb,Px Q.yb,Px Q.bb]
 p:bd w X Q.xb Q.c σ Q.n Q.g
 r:bi w R Q.yb Q.c τ Q.fv Q.ss
 b:cq w K Q.bb N
 xr:∀k,X k->¬R k
 xk:∀k,X k->¬K k
 rk:∀k,R k->¬K k
 gg:∀k,G k->¬X k/\¬R k/\¬K k/\k<w.heap.size
 gw:G Q.wb
 okp:σ.Ok Q.c Q.g
 okr:τ.Ok Q.c Q.g
def ar (w:World)(Q:Pq)(G:Nat->Prop)(σ τ:Sg)(N:Nat):Prop:=∃X R K,Pl w Q G X R K σ τ N
def ax (w w':World)(G:Nat->Prop):Prop:=ai w w' (λk=>¬G k)
theorem ax.of_below (h:Bl w w'):ax w w' G:=ai.of_below h
theorem ax.trans (h:ax w w1 G)(h2:ax w1 w2 G):ax w w2 G:=ai.trans h h2 λ_ h=>.inl h
theorem ax.mono (h:ax w w' G)(hG:∀k,G' k->G k):ax w w' G':=ai.mono h λk hk hG'=>hk (hG k hG')
theorem ax.cell (h:ax w w' G){b o:Nat}{v:Value}(hb:G b)(hc:w.cell? ⟨b,o,none⟩=some v):w'.cell? ⟨b,o,none⟩=some v:=bz h (λhn=>hn hb) hc
theorem cq.kl {bb n:Nat}(h:cq w K bb n):∀k,K k->k<w.heap.size:=by
 obtain⟨a,m,j,g,c,e,b,o,l,i,d,f,h,_⟩:=h;exact h.kl
theorem Pl.later {Q:Pq}{R:Nat->Prop}(h:Pl w Q G X R K σ τ N)(hb:Bl w w'):Pl w' Q G X R K σ τ N:=
 ⟨h.box.later hb,h.p.later hb,h.r.later hb,h.b.later hb,h.xr,h.xk,h.rk,λk hk=>⟨(h.gg k hk).1,(h.gg k hk).2.1,(h.gg k hk).2.2.1,h_ (h.gg k hk).2.2.2 hb.size⟩,h.gw,h.okp,h.okr⟩
theorem ar.later {Q:Pq}(h:ar w Q G σ τ N)(hb:Bl w w'):ar w' Q G σ τ N:=by
 obtain⟨X,R,K,h⟩:=h;exact⟨X,R,K,h.later hb⟩
def aX (G:Nat->Prop)(w w':World):Nat->Prop:=λk=>G k\/(w.heap.size<=k/\k<w'.heap.size)
theorem ar.widen {Q:Pq}(h:ar w Q G σ τ N)(hb:Bl w w'):ar w' Q (aX G w w') σ τ N:=by
 obtain⟨X,R,K,h⟩:=h;have a:=h.later hb;refine⟨X,R,K,a.box,a.p,a.r,a.b,h.xr,h.xk,h.rk,λk c=>?_,.inl h.gw,h.okp,h.okr⟩;rcases c with c|c
 ·exact a.gg k c
 exact⟨λe=>by have:=h.p.xl k e;omega,λe=>by have:=h.r.rl k e;omega,λe=>by have:=h.b.kl k e;omega,c.2⟩
theorem ar.fewer {Q:Pq}(h:ar w Q G σ τ N)(hG:∀k,G' k->G k)(hw:G' Q.wb):ar w Q G' σ τ N:=by
 obtain⟨X,R,K,h⟩:=h;exact⟨X,R,K,h.box,h.p,h.r,h.b,h.xr,h.xk,h.rk,λk hk=>h.gg k (hG k hk),hw,h.okp,h.okr⟩
theorem ar.more {Q:Pq}(h:ar w Q G σ τ N)(hN:N<=N'):ar w Q G σ τ N':=by
 obtain⟨X,R,K,h⟩:=h;obtain⟨a,n,l,j,d,g,c,o,m,k,e,i,f,q,s,t,u,v,x⟩:=h.b;exact⟨X,R,K,h.box,h.p,h.r,⟨a,n,l,j,d,g,c,o,m,k,e,i,f,by omega,by omega,by omega,by omega,by omega,by omega⟩,h.xr,h.xk,h.rk,h.gg,h.gw,h.okp,h.okr⟩
theorem ar.doP {Q:Pq}{f:Nat}{a:Int×Sg}(h:ar w Q G σ τ N)(ha:a.2.Ok Q.c Q.g)(hf:∀X,bd w X Q.xb Q.c σ Q.n Q.g->(∀k,G k->¬X k)->c_ f args w λe w'=>ki w w' e X Q.xb Q.c Q.n Q.g a):
 c_ f args w λe w'=>e=.returned (I a.1)/\ar w' Q G a.2 τ N/\ax w w' G:=by
 obtain⟨X,R,K,h⟩:=h;refine(hf X h.p λk hk=>(h.gg k hk).1).mono ?_;rintro e w' ⟨rfl,j,l,i⟩;have m:=i.only.size;refine⟨rfl,⟨j,R,K,h.box.kept i.only (h.gg _ h.gw).1,l,h.r.only i.only λk hR hX=>h.xr k hX hR,h.b.only i.only λk hK hX=>h.xk k hX hK,λk hX hR=>?_,λk hX hK=>?_,h.rk,λk hk=>⟨λhX=>?_,(h.gg k hk).2.1,(h.gg k hk).2.2.1,h_ (h.gg k hk).2.2.2 m⟩,h.gw,ha,h.okr⟩,i.only.mono λk hX hk=>(h.gg k hk).1 hX⟩
 ·rcases i.sub k hX with d|d
  ·exact h.xr k d hR
  have:=h.r.rl k hR;omega
 ·rcases i.sub k hX with d|d
  ·exact h.xk k d hK
  have:=h.b.kl k hK;omega
 rcases i.sub k hX with d|d
 ·exact(h.gg k hk).1 d
 have:=(h.gg k hk).2.2.2;omega
theorem ar.doR {Q:Pq}{f:Nat}{a:Int×Sg}(h:ar w Q G σ τ N)(ha:a.2.Ok Q.c Q.g)(hf:∀R,bi w R Q.yb Q.c τ Q.fv Q.ss->c_ f args w λe w'=>fZ w w' e R Q.yb Q.c Q.fv Q.ss a):
 c_ f args w λe w'=>e=.returned (I a.1)/\ar w' Q G σ a.2 N/\ax w w' G:=by
 obtain⟨X,R,K,h⟩:=h;refine(hf R h.r).mono ?_;rintro e w' ⟨rfl,j,l,i⟩;have m:=i.only.size;refine⟨rfl,⟨X,j,K,h.box.kept i.only (h.gg _ h.gw).2.1,h.p.only i.only λk hX hR=>h.xr k hX hR,l,h.b.only i.only λk hK hR=>h.rk k hR hK,λk hX hR=>?_,h.xk,λk hR hK=>?_,λk hk=>⟨(h.gg k hk).1,λhR=>?_,(h.gg k hk).2.2.1,h_ (h.gg k hk).2.2.2 m⟩,h.gw,h.okp,ha⟩,i.only.mono λk hR hk=>(h.gg k hk).2.1 hR⟩
 ·rcases i.sub k hR with d|d
  ·exact h.xr k hX d
  have:=h.p.xl k hX;omega
 ·rcases i.sub k hR with d|d
  ·exact h.rk k d hK
  have:=h.b.kl k hK;omega
 rcases i.sub k hR with d|d
 ·exact(h.gg k hk).2.1 d
 have:=(h.gg k hk).2.2.2;omega
theorem ar.doB {Q:Pq}{f:Nat}{l:Value}(h:ar w Q G' σ τ N)(hG:∀k,G k->G' k)(hw:G Q.wb)(hl:∀b,l.ownBlock=some b->G' b/\¬G b)(hf:∀K,cq w K Q.bb N->(∀b,l.ownBlock=some b->¬K b)->c_ f args w λe w'=>e=.returned (.tuple #[])/\iW w w' K Q.bb N l):
 c_ f args w λe w'=>e=.returned (.tuple #[])/\ar w' Q G σ τ (N+4)/\ax w w' G:=by
 obtain⟨X,R,K,h⟩:=h;refine(hf K h.b λb hb=>(h.gg b (hl b hb).1).2.2.1).mono ?_;rintro e w' ⟨rfl,j,m,d,c⟩;have g:=c.size
 have i:∀k,G k->¬(K k\/l.ownBlock=some k):=λk hk a=>by
  rcases a with a|a
  ·exact(h.gg k (hG k hk)).2.2.1 a
  exact(hl k a).2 hk
 refine⟨rfl,⟨X,R,j,h.box.kept c (i _ hw),h.p.only c λk hX a=>?_,h.r.only c λk hR a=>?_,m,h.xr,λk hX hK=>?_,λk hR hK=>?_,λk hk=>⟨(h.gg k (hG k hk)).1,(h.gg k (hG k hk)).2.1,λhK=>?_,h_ (h.gg k (hG k hk)).2.2.2 g⟩,hw,h.okp,h.okr⟩,c.mono λk a hk=>i k hk a⟩
 ·rcases a with a|a
  ·exact h.xk k hX a
  exact(h.gg k (hl k a).1).1 hX
 ·rcases a with a|a
  ·exact h.rk k hR a
  exact(h.gg k (hl k a).1).2.1 hR
 ·rcases d k hK with a|a|a
  ·exact h.xk k hX a
  ·exact(h.gg k (hl k a).1).1 hX
  have:=h.p.xl k hX;omega
 ·rcases d k hK with a|a|a
  ·exact h.rk k hR a
  ·exact(h.gg k (hl k a).1).2.1 hR
  have:=h.r.rl k hR;omega
 rcases d k hK with a|a|a
 ·exact(h.gg k (hG k hk)).2.2.1 a
 ·exact(hl k a).2 hk
 have:=(h.gg k (hG k hk)).2.2.2;omega
theorem ar.askP {Q:Pq}{P:Prop}(h:ar w Q G σ τ N)(hf:∀X,bd w X Q.xb Q.c σ Q.n Q.g->P):P:=by
 obtain⟨X,R,K,h⟩:=h;exact hf X h.p
theorem ar.askR {Q:Pq}{P:Prop}(h:ar w Q G σ τ N)(hf:∀R,bi w R Q.yb Q.c τ Q.fv Q.ss->P):P:=by
 obtain⟨X,R,K,h⟩:=h;exact hf R h.r
theorem ar.askB {Q:Pq}{P:Prop}(h:ar w Q G σ τ N)(hf:∀K,cq w K Q.bb N->P):P:=by
 obtain⟨X,R,K,h⟩:=h;exact hf K h.b
theorem ar.box {Q:Pq}(h:ar w Q G σ τ N):Bx w Q.wb 38 #[Px Q.xb,Px Q.yb,Px Q.bb]:=by
 obtain⟨X,R,K,h⟩:=h;exact h.box
theorem ar.okp {Q:Pq}(h:ar w Q G σ τ N):σ.Ok Q.c Q.g:=by
 obtain⟨X,R,K,h⟩:=h;exact h.okp
theorem ar.okr {Q:Pq}(h:ar w Q G σ τ N):τ.Ok Q.c Q.g:=by
 obtain⟨X,R,K,h⟩:=h;exact h.okr
theorem ar.gw {Q:Pq}(h:ar w Q G σ τ N):G Q.wb:=by
 obtain⟨X,R,K,h⟩:=h;exact h.gw
theorem ar.gl {Q:Pq}(h:ar w Q G σ τ N):∀k,G k->k<w.heap.size:=by
 obtain⟨X,R,K,h⟩:=h;exact λk hk=>(h.gg k hk).2.2.2
theorem Bv (a b d:Int)(w:World):(binOp .eql 99 (.agg #[I a,I b,I d]) (.agg #[I a,I b,I d])).run prog w=.ok (.bool true) w:=by
 have g:=underlying3;have f:=Tryz.isAgg3;have h:=Tryz.sizeOf3;have c:prog.underlying 99=some (.struct (prog.fieldsOf 99)):=by kernel_rfl
 have e:prog.stoodInHeld 99=false:=by kernel_rfl
 rw[run_eql_struct,show (10000:Nat)=9999+1 from rfl,run_equalIn_agg w 9999 99 _ _ c e];simp only[Program.fieldsOf,underlying99];go_simp
theorem BS (Q:Pq)(hQ:Q.Ok)(G:Nat->Prop)(σ:Sg)(N:Nat)(w:World)(h:ar w Q G σ σ N)(hn:σ.rs.length<1048576):
 c_ 58 #[Px Q.wb] w λe w'=>e=.returned (.bool true)/\Bl w w':=by
 have l:=h.askP λX hP=>DV X Q.xb Q.c σ Q.n Q.g w hP h.okp hQ.c;have s:=hd h;have C:=h.box.c 0 (Px Q.xb);have v:=h.box.c 1 (Px Q.yb);have t:Hid Q.Ok:=hQ;clear h hQ;obtain⟨U,V,H,M,c,E,n,g,F⟩:=Q;simp only at *;unfold gj at l;generalize x:σ.poll c g=p at l;obtain⟨b,d,f,T⟩:=p;have y:=Bv b d f;simp only at l;have B:=hd x;clear x;go_enter func58,ntmps58;go_wp2_with fail;go_fit l;rintro e z ⟨rfl,k⟩;have a:Bl w (z.alloc (.cells #[I b,I d,I f] 99)):=aj k (af _ _);have D:=ae a v;have m:=(s.out.later a).askR λR hR=>su R H c σ E F _ hR g n t.out.ss s.out.okr t.out.c hn;have u:=Bx.new z #[I b,I d,I f] 99;unfold gj at m;rw[B.out] at m;simp only at m;have j:=hd a;clear l k C v a;go_wp2_with fail;go_fit m;rintro e A ⟨rfl,i⟩;have o:=(u.later i).mk (.cells #[I b,I d,I f] 99);have q:=Bx.new A #[I b,I d,I f] 99;have r:Hid (Bl w (A.alloc (.cells #[I b,I d,I f] 99))):=aj (aj j.out i) (af _ _);have J:=o.c 0 (I b);have K:=o.c 1 (I d);have L:=o.c 2 (I f);have O:=q.c 0 (I b);have P:=q.c 1 (I d);have S:=q.c 2 (I f);clear m i u o q D j;go_wp2_with fail;go_ret;exact⟨rfl,r.out⟩
theorem Fn (Q:Pq)(hQ:Q.Ok)(G:Nat->Prop)(σ:Sg)(N:Nat)(w:World)(h:ar w Q G σ σ N)(hn:σ.rs.length<1048576):
 c_ 99 #[Px Q.wb] w λe w'=>e=.returned (.bool true)/\Bl w w':=by
 have d:=h.askP λX hP=>E7 X Q.xb Q.c σ Q.n Q.g w hP h.okp hQ.c hn;have f:=h.askR λR hR=>Ee R Q.yb Q.c σ Q.fv Q.ss w hR Q.g h.okr hQ.c hn;have i:=h.box.c 0 (Px Q.xb);have j:=h.box.c 1 (Px Q.yb);clear h hQ;generalize bs (bq σ.rs++σ.T)=s at d f;go_enter func99,ntmps99;go_wp2_with fail;go_fit d;rintro e k ⟨rfl,rfl⟩;clear d;go_wp2_with fail;go_fit f;rintro e l ⟨rfl,a⟩;have b:=hd a;clear f a;go_wp2_with fail;go_ret;exact⟨rfl,b.out⟩
variable{Q:Pq}
def eC (w w':World)(e:Ending)(Q:Pq)(G:Nat->Prop)(σ:Sg)(N:Nat):Prop:=e=.returned (.bool true)/\ar w' Q G σ σ N/\ax w w' G
theorem eC.of_below (h:ar w Q G σ σ N)(hb:Bl w w')(hN:N<=N'):eC w w' (.returned (.bool true)) Q G σ N':=⟨rfl,(h.later hb).more hN,ax.of_below hb⟩
variable{m n:Nat}
theorem zX (h:(n+100)*64<=140737488355328)(hm:m<=n):(m+100)*64<=140737488355328:=e_ (u_ 64 (show m+100<=n+100 by omega)) h
theorem sM (h:(n+100)*64<=140737488355328):n<8796093022208:=by omega
theorem Fo (h:(n+100)*64<=140737488355328):n*32<=140737488355328:=by omega
theorem Em (Q:Pq)(hQ:Q.Ok)(G:Nat->Prop)(σ:Sg)(N:Nat)(w:World)(h:ar w Q G σ σ N)(hn:σ.rs.length<1048576)(hN:N<549755813000):
 c_ 94 #[Px Q.wb] w λe w'=>eC w w' e Q G σ (N+4):=by
 have i:(σ.top Q.c Q.g Q.n+100)*64<=140737488355328:=by
  obtain⟨hI,aa⟩:=h.okp.fits.inv hQ.c;have h1:=hI.cnt;have h2:=aa.ids;have h3:=hQ.ss.n;have h4:σ.top Q.c Q.g Q.n<=1060000000:=by unfold Sg.top;omega
  exact e_ (u_ 64 (Nat.add_le_add_right h4 100)) (by decide)
 have hx:=h.askP λX hP=>DW X Q.xb Q.c σ Q.n Q.g w hP (Fo i);have HY:Hid (∀W,Bl w W->c_ 134 #[Px Q.yb] W λe w'=>zG w' e Q.c Q.g Q.n σ/\Bl W w'):=λW z=>(h.later z).askR λR hR=>CO R Q.yb Q.c σ Q.fv Q.ss W hR Q.g Q.n hQ.ss h.okr hQ.c hn
 have Y:Hid (∀(u W:World) (a:Option Addr) (n d:Nat) (xs:List Value),Bl w u->Bl u W->u.ownsRow w.heap.size 80 2 (.slice a n d) n xs->n<=σ.top Q.c Q.g Q.n->c_ 135 #[Px Q.bb,.slice a n d] W λe w'=>e=.returned (.tuple #[])/\ar w' Q G σ σ (N+4)/\ax W w' G):=λu W a n d xs p z f hnn=>
  ((h.widen p).later z).doB (l:=.slice a n d) (λ_ h=>.inl h) h.gw (λb hb'=>by
   have af:=f_ f b hb'
   exact⟨.inr af,λhG=>by have:=h.gl b hG;omega⟩) λK hB hK=>El xs a n d Q.bb w.heap.size N K W hB hN (f.kept (cO z) (Classical.em _)) hK (zX i hnn) (sM (zX i hnn))
 have b0:=h.box.c 0 (Px Q.xb);have b1:=h.box.c 1 (Px Q.yb);have b2:=h.box.c 2 (Px Q.bb);have al:∀W:World,(binOp .neq 24 (Zn) (Zn)).run prog W=.ok (.bool false) W:=λW=>run_neq_slice_nil_any W _ _ _ _ _ _ _ underlying24;have M:=hd i;clear h hQ i;unfold eC;generalize ag:Q.wb=wb at *;generalize ai:Q.xb=xb at *;generalize ak:Q.yb=yb at *;generalize ac:Q.bb=bb at *;clear ag ai ak ac;go_enter func94,ntmps94;go_wp2_with fail;go_fit hx;rintro e u ⟨ah,p⟩;have d1:=ae p b1;have J:=HY.out u p;have B:=hd p;clear hx p HY;rcases ah with ⟨U,l,b,d,rfl,hT,T,f⟩|⟨U,rfl⟩
 ·have V:=J.mono (R':=λe w'=>(∃E Z F H,e=.returned (.tuple #[.slice E Z F,I 0])/\l=H/\ay w' (.slice E Z F) H)/\Bl u w') (by
   rintro e x ⟨h2,z⟩;refine⟨?_,z⟩;rcases h2 with ⟨_,v,rfl,H,y,ab,_⟩|⟨hd,_⟩
   ·obtain⟨E,F,rfl⟩:=y.form;exact⟨E,_,F,H,rfl,hT.unique ab,ay.of_sl y⟩
   rw[U] at hd;cases hd)
  have HR:=hd f;have O:=hd T;clear hT f T U J;go_wp2_with fail;go_fit V;rintro e x ⟨⟨E,Z,F,H,rfl,A,S⟩,k⟩;have o:=aj B.out k;have y:=eM l H (s_ b 0 l.length d) (.slice E Z F) x (ay.later (ay.of_row HR.out) k) S (by have:=sM M.out;have:=O.out;omega);have ad:=hd A;clear A;have q:=hd k;have j:=hd o;clear V k o S;go_wp2_with fail;go_fit y;rintro e w3 ⟨⟨r,rfl,hr⟩,m,rfl⟩;obtain rfl:r=true:=hr.2 ad.out;have P:=Y.out u (x.drewN m) (some ⟨b,0,none⟩) l.length d _ B.out ⟨q.out.os,q.out.tape,q.out.output,q.out.size,q.out.block⟩ HR.out O.out;have L:Hid (Bl w (x.drewN m)):=⟨j.out.os,j.out.tape,j.out.output,j.out.size,j.out.block⟩;have d2:=ae L.out b2;generalize x.drewN m=w4 at *;clear y hr Y d1;go_wp2_with fail;go_fit P;rintro e w5 ⟨rfl,t,s⟩;have D:=hd t;have C:=hd ((ax.of_below L.out).trans s);clear P t s;go_wp2_with fail;go_ret;exact⟨rfl,D.out,C.out⟩
 have J:c_ 134 #[Px yb] u λe w'=>e=.returned (.tuple #[Zn,I 8])/\Bl u w':=J.mono (by
  rintro e x ⟨h2,z⟩;rcases h2 with ⟨hd,_⟩|⟨_,rfl⟩
  ·rw[U] at hd;cases hd
  exact⟨rfl,z⟩)
 clear U;go_wp2_with fail;go_fit J;rintro e x ⟨rfl,k⟩;have o:=aj B.out k;have y:=iN 0 0 none none x;have P:=Y.out w x none 0 0 [] (n_ _ _) o (B_ _ _ _ _) (k_ _);have j:=hd o;have d2:=ae o b2;clear J k o Y;go_wp2_with fail;go_fit y;rintro e w3 ⟨rfl,rfl⟩;clear y d1;go_wp2_with fail;go_fit P;rintro e w5 ⟨rfl,t,s⟩;have D:=hd t;have C:=hd ((ax.of_below j.out).trans s);clear P t s;go_wp2_with fail;go_ret;exact⟨rfl,D.out,C.out⟩
variable{base cap:Nat}
theorem zY (a b d:Int)(w:World):(binOp .neq 71 (.agg #[I a,I b,I d]) (.agg #[I a,I b,I d])).run prog w=.ok (.bool false) w:=by
 have g:=underlying3;have f:=Tryz.isAgg3;have h:=Tryz.sizeOf3;have c:prog.underlying 71=some (.struct (prog.fieldsOf 71)):=by kernel_rfl
 have e:prog.stoodInHeld 71=false:=by kernel_rfl
 rw[run_neq_struct,show (10000:Nat)=9999+1 from rfl,run_equalIn_agg w 9999 71 _ _ c e];simp only[Program.fieldsOf,underlying71];go_simp
theorem px {a:Option Addr}{l:List Tw}(h:w.ownsRow base 71 3 (.slice a n cap) l.length (l.flatMap cT)){i:Nat}(hi:i<l.length):∃g,a=some ⟨g,0,none⟩/\g<w.heap.size/\w.cell? ⟨g,i*3,none⟩=some (I l[i].1)/\w.cell? ⟨g,i*3+1,none⟩=some (I l[i].2.1)/\w.cell? ⟨g,i*3+2,none⟩=some (I l[i].2.2):=by
 rcases h.2 with ⟨_,m⟩|⟨g,c,d,e,_,k,_⟩
 ·omega
 obtain⟨rfl,_,_⟩:=Value.slice.inj e;have f:=h.cells (g:=g) rfl
 have b:∀j (u:Value),j<3->(cT l[i])[j]? =some u->w.cell? ⟨g,i*3+j,none⟩=some u:=λj u hj hu=>by
  have:=f (i*3+j) u (by rw[aq cT 3 (λ_=>rfl) l i j hi hj];exact hu);simpa[bE] using this
 exact⟨g,rfl,(j_.1 k).1,b 0 _ (by decide) rfl,b 1 _ (by decide) rfl,b 2 _ (by decide) rfl⟩
theorem C6 (Q:Pq)(hQ:Q.Ok)(G:Nat->Prop)(σ:Sg)(N:Nat)(w:World)(h:ar w Q G σ σ N)(hn:σ.rs.length<1048576)(hN:N<549755813000):
 c_ 96 #[Px Q.wb] w λe w'=>eC w w' e Q G σ (N+4):=by
 have H:=h.askP λX hP=>Cy X Q.xb Q.c σ Q.n Q.g w hP h.okp hQ.c hn;have P:Hid (∀W,Bl w W->c_ 138 #[Px Q.yb] W λe w'=>qo W w' e Q.c Q.g σ/\Bl W w'):=λW hb=>(h.later hb).askR λR hR=>Bp R Q.yb Q.c σ Q.fv Q.ss W hR Q.g Q.n hQ.ss h.okr hQ.c hn
 have M:Hid (∀(B W:World) (a:Option Addr) (n cap:Nat) (xs:List Value),Bl w B->Bl B W->B.ownsRow w.heap.size 71 3 (.slice a n cap) n xs->n<=16->c_ 139 #[Px Q.bb,.slice a n cap] W λe w'=>e=.returned (.tuple #[])/\ar w' Q G σ σ (N+4)/\ax W w' G):=λB W a n cap xs k hb d hnn=>
  ((h.widen k).later hb).doB (l:=.slice a n cap) (λ_ h=>.inl h) h.gw (λb hb'=>by
   have r:=f_ d b hb'
   exact⟨.inr r,λhG=>by have:=h.gl b hG;omega⟩) λK hB hK=>Fm xs a n cap Q.bb w.heap.size N K W hB hN (d.kept (cO hb) (Classical.em _)) hK (zX (n:=16) (by decide) hnn) (by omega)
 have F:(iC Q.c.age (Ts.all Q.c Q.g σ.rs).queue).length<=16:=by
  have hI:=(h.okp.fits.inv hQ.c).1;rw[kV λx H=>by have:=(hI.top x H).2.1;have:=hQ.c.1.2;omega];exact e_ hI.len hQ.c.2.2.2.2.2.2.2
 have b0:=h.box.c 0 (Px Q.xb);have b1:=h.box.c 1 (Px Q.yb);have b2:=h.box.c 2 (Px Q.bb);have aa:∀W:World,(binOp .neq 61 (Zn) (Zn)).run prog W=.ok (.bool false) W:=λW=>run_neq_slice_nil_any W _ _ _ _ _ _ _ underlying61;clear h hQ;unfold eC;generalize T:Q.wb=wb at *;generalize V:Q.xb=xb at *;generalize Y:Q.yb=yb at *;generalize S:Q.bb=bb at *;unfold qo o8 at H P;generalize iC Q.c.age (Ts.all Q.c Q.g σ.rs).queue=t at *;clear T V Y S;go_enter func96,ntmps96;go_wp2_with fail;go_fit H;rintro e B ⟨U,k⟩;have d1:=ae k b1;have L:=P.out B k;have v:=hd k;clear H k P;rcases U with ⟨J,v1,rfl,d⟩|⟨J,rfl⟩
 ·obtain⟨a1,c1,rfl⟩:=ag d;have Z:=hd d;clear d;go_wp2_with fail;go_fit L;rintro e C ⟨A,o⟩;rcases A with ⟨_,v2,rfl,d⟩|⟨s,rfl⟩
  ·obtain⟨a2,c2,rfl⟩:=ag d;have O:=hd d;have f:=hd o;have j:=hd (aj v.out o);clear d o L d1 J;go_wp2_with fail;go_loopw [7] (λiv wr=>∃i m:Nat,i<=t.length/\iv=I i/\wr=C.drewN m) (λi _=>t.length-(intOf i).toNat)
   case atStart=>exact⟨0,0,k_ _,rfl,rfl⟩
   obtain⟨i,m,hi,rfl,rfl⟩:=hrel;by_cases r:i<t.length
   ·obtain⟨g1,rfl,ab,x0,x1,x2⟩:=px Z.out r;obtain⟨g2,rfl,ac,y0,y1,y2⟩:=px O.out r;have z0:=ae f.out x0;have z1:=ae f.out x1;have z2:=ae f.out x2;have ad:=zY t[i].1 t[i].2.1 t[i].2.2;clear x0 x1 x2;generalize t[i].1=t0 at *;generalize t[i].2.1=t1 at *;generalize t[i].2.2=t2 at *;go_wp2;go_quiet (fail);go_wp2;exact⟨⟨i+1,_,r,by go_num,rfl⟩,by simp[intOf];omega⟩
   have E:=M.out B (C.drewN m) a1 t.length c1 _ v.out ⟨f.out.os,f.out.tape,f.out.output,f.out.size,f.out.block⟩ Z.out F;have D:Hid (Bl w (C.drewN m)):=⟨j.out.os,j.out.tape,j.out.output,j.out.size,j.out.block⟩;have d2:=ae D.out b2;generalize C.drewN m=w4 at *;go_wp2_with fail;go_fit E;rintro e w5 ⟨rfl,q,p⟩;have z:=hd q;have y:=hd ((ax.of_below D.out).trans p);clear E q p;go_wp2_with fail;go_ret;exact⟨rfl,z.out,y.out⟩
  rw[J] at s;cases s
 go_wp2_with fail;go_fit L;rintro e C ⟨A,o⟩;rcases A with ⟨s,_⟩|⟨_,rfl⟩
 ·rw[J] at s;cases s
 have u:=aj v.out o;have E:=M.out w C none 0 0 [] (n_ _ _) u (B_ _ _ _ _) (k_ _);have j:=hd u;have d2:=ae u b2;clear L o u M d1;go_wp2_with fail;refine wp_loop_rounds 1 ?_;rw[rounds_succ];go_wp2_with fail;go_fit E;rintro e w5 ⟨rfl,q,p⟩;have z:=hd q;have y:=hd ((ax.of_below j.out).trans p);clear E q p;go_wp2_with fail;go_ret;exact⟨rfl,z.out,y.out⟩
theorem ar.ack (hQ:Q.Ok)(h:ar w Q G σ σ N)(hn:σ.rs.length<1048576)(m err:Int)(he:iq (Ts.all Q.c Q.g σ.rs) m err):((σ.ack m err).2).Ok Q.c Q.g:=
 h.okp.act hQ.c λh0=>(kq he (by have a:=(h.okp.fits.inv hQ.c).1.cnt;have b:=(h.okp.fits.inv hQ.c).2.ids;omega) h0).1
theorem Et (Q:Pq)(hQ:Q.Ok)(G:Nat->Prop)(σ:Sg)(N:Nat)(m m' err:Int)(w:World)(h:ar w Q G σ σ N)(hn:σ.rs.length<1048576)(hm:m'=if m=0 then (σ.poll Q.c Q.g).1 else m)(he:iq (Ts.all Q.c Q.g σ.rs) m' err):
 c_ 48 #[Px Q.wb,I m] w λe w'=>e=.returned (.bool true)/\ar w' Q G (σ.ack m' err).2 (σ.ack m' err).2 N/\ax w w' G:=by
 have q:=h.ack hQ hn m' err he;have x:Hid (∀W,Bl w W->c_ 79 #[Px Q.xb,I m'] W λe w'=>e=.returned (I (σ.ack m' err).1)/\ar w' Q G (σ.ack m' err).2 σ N/\ax W w' G):=λW hb=>(h.later hb).doP q λX hP _=>E6 X Q.xb Q.c σ Q.n Q.g m' err W hP h.okp hQ.c hn he;have y:Hid (∀W,ar W Q G (σ.ack m' err).2 σ N->c_ 93 #[Px Q.yb,I m'] W λe w'=>e=.returned (I (σ.ack m' err).1)/\ar w' Q G (σ.ack m' err).2 (σ.ack m' err).2 N/\ax W w' G):=λW hW=>hW.doR q λR hR=>Fj R Q.yb Q.c σ Q.fv Q.ss m' err W hR Q.g Q.n hQ.ss h.okr hQ.c hn he;have t:=h.askR λR hR=>su R Q.yb Q.c σ Q.fv Q.ss w hR Q.g Q.n hQ.ss h.okr hQ.c hn;have C:=h.box.c 0 (Px Q.xb);have z:=h.box.c 1 (Px Q.yb);have r:=hd (h.gw);clear h hQ he q;generalize D:Q.wb=Y at *;generalize E:Q.xb=xb at *;generalize F:Q.yb=yb at *;generalize (σ.ack m' err).2=τ at *;generalize (σ.ack m' err).1=k at *;unfold gj at t;generalize (σ.poll Q.c Q.g)=p at *;obtain⟨T,K,L,V⟩:=p;simp only at t hm;clear D E F;have B:=hd hm;clear hm;by_cases hm0:m=0
 ·subst hm0;obtain rfl:m'=T:=by rw[B.out,if_pos rfl]
  go_enter func48,ntmps48;go_wp2_with fail;go_fit t;rintro e M ⟨rfl,s⟩;have j:Bl w (M.alloc (.cells #[I m',I K,I L] 99)):=aj s (af _ _);have O:=ae j C;have J:=Bx.new M #[I m',I K,I L] 99;have Z:=J.c 0 (I m');have u:=x.out _ j;have A:=hd j;clear t s j J x C;go_wp2_with fail;go_fit u;rintro e H ⟨rfl,f,b⟩;have a:=hd ((ax.of_below A.out).trans b);have P:=a.out.cell r.out z;have v:=y.out H f;clear u f b y z O;go_wp2_with fail;go_fit v;rintro e U ⟨rfl,i,d⟩;have o:=hd i;have l:=hd (a.out.trans d);clear v i d;go_wp2_with fail;go_ret;exact⟨rfl,o.out,l.out⟩
 obtain rfl:m'=m:=by rw[B.out,if_neg hm0]
 have u:=x.out w (n_ _ _);have S:(m'==0)=false:=by simpa using hm0
 clear t x B;go_enter func48,ntmps48;go_wp2_with fail;go_fit u;rintro e H ⟨rfl,f,b⟩;have a:=hd b;have P:=a.out.cell r.out z;have v:=y.out H f;clear u f b y z C;go_wp2_with fail;go_fit v;rintro e U ⟨rfl,i,d⟩;have o:=hd i;have l:=hd (a.out.trans d);clear v i d;go_wp2_with fail;go_ret;exact⟨rfl,o.out,l.out⟩
end
end Go.Proofs.YtgamgomepdfgdaaGreat
