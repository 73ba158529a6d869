import Derived.Test.YtgamgomepdfgdaaGreatAM26
set_option maxRecDepth 100000
set_option maxHeartbeats 8000000
namespace Go.Proofs.YtgamgomepdfgdaaGreat
open Go.RowKit Go.Proofs.Tryz
section
variable{args:Array Value}{tl:List Tp}{xs:List Value}{M N base m n size:Nat}{G G' S:Nat->Prop}{Q:Pq}{σ τ:Sg}{e:TypeId}{v:Value}{W w w1:World}
theorem ar.doS {f:Nat}(h:ar w Q G' σ τ N)(hG:∀k,G k->G' k)(hw:G Q.wb)(hl:∀b,S b->G' b/\¬G b)(hf:∀K,cq w K Q.bb N->(∀b,S b->¬K b)->c_ f args w λe w'=>e=.returned (.tuple #[])/\bQ w w' K Q.bb N m S):
 c_ f args w λe w'=>e=.returned (.tuple #[])/\ar w' Q G σ τ (N+m)/\ax w w' G:=by
 obtain⟨X,R,K,h⟩:=h;refine(hf K h.b λb hb=>(h.gg b (hl b hb).1).2.2.1).mono ?_;rintro e w' ⟨rfl,j,l,d,c⟩;have g:=c.size
 have i:∀k,G k->¬(K k\/S k):=λk hk a=>by
  rcases a with a|a
  ·exact(h.gg k (hG k hk)).2.2.1 a
  exact(hl k a).2 hk
 refine⟨rfl,⟨X,R,j,h.box.kept c (i _ hw),h.p.only c λk hX a=>?_,h.r.only c λk hR a=>?_,l,h.xr,λk hX hK=>?_,λk hR hK=>?_,λk hk=>⟨(h.gg k (hG k hk)).1,(h.gg k (hG k hk)).2.1,λhK=>?_,h_ (h.gg k (hG k hk)).2.2.2 g⟩,hw,h.okp,h.okr⟩,c.mono λk a hk=>i k hk a⟩
 ·rcases a with a|a
  ·exact h.xk k hX a
  exact(h.gg k (hl k a).1).1 hX
 ·rcases a with a|a
  ·exact h.rk k hR a
  exact(h.gg k (hl k a).1).2.1 hR
 ·rcases d k hK with a|a|a
  ·exact h.xk k hX a
  ·exact(h.gg k (hl k a).1).1 hX
  have:=h.p.xl k hX;omega
 ·rcases d k hK with a|a|a
  ·exact h.rk k hR a
  ·exact(h.gg k (hl k a).1).2.1 hR
  have:=h.r.rl k hR;omega
 rcases d k hK with a|a|a
 ·exact(h.gg k (hG k hk)).2.2.1 a
 ·exact(hl k a).2 hk
 have:=(h.gg k (hG k hk)).2.2.2;omega
def rTp (y:Tp):Value×Nat×List Value:=(y.2,y.1.2.length,y.1.2.map cI)
def rGv (y:Gv):Value×Nat×List Value:=(y.2,y.1.1.length,y.1.1.map cI)
def rJv (y:Jv):Value×Nat×List Value:=(y.2.1,y.1.2.2.1.length,y.1.2.2.1.map cI)
theorem eL (h:w.ownsRow base e size v n xs)(hb:Bl w W):W.ownsRow base e size v n xs:=aN h λg hg=>hb.block g (f_ h g hg).2
theorem ar.ownTips (h:ar w Q G σ τ N)(hb1:Bl w w1)(hb:Bl w1 W)(hT:ix w.heap.size w1 v tl)(hle:tl.length<=200100)(h8:∀y∈tl,y.1.2.length<1048576)(hN:N<549000000000):
 c_ 137 #[Px Q.bb,v] W λe w'=>e=.returned (.tuple #[])/\ar w' Q G σ τ (N+900000)/\ax W w' G:=by
 obtain⟨a,c,rfl⟩:=ag hT.row
 have i:∀b,((Value.slice a tl.length c).ownBlock=some b\/∃y∈tl,y.2.ownBlock=some b)->w.heap.size<=b/\b<w1.heap.size:=λb hb'=>by
  rcases hb' with j|⟨y,d,j⟩
  ·exact f_ hT.row b j
  exact f_ (hT.ids y d) b j
 have:=((h.widen hb1).later hb).doS (G:=G) (m:=4*tl.length+4) (f:=137) (args:=#[Px Q.bb,.slice a tl.length c]) (S:=λb=>(Value.slice a tl.length c).ownBlock=some b\/∃y∈tl,y.2.ownBlock=some b) (λ_ h=>.inl h) h.gw (λb hb'=>⟨.inr (i b hb'),λhG=>by have:=h.gl b hG;have:=i b hb';omega⟩) λK hB hK=>Eo tl (tl.map rTp) a tl.length c Q.bb w.heap.size N K W hB (by omega) rfl (eL hT.row hb) (λg hg=>hK g (.inl hg)) ⟨λr hr=>?_,?_,λr hr g hg=>?_,λr hr=>?_⟩ (by rw[y_];rfl) (jS (by omega)) (by omega)
 ·exact this.mono λe w' ⟨h1,h2,h3⟩=>⟨h1,h2.more (by omega),h3⟩
 ·obtain⟨y,d,rfl⟩:=q_.1 hr;exact eL (hT.ids y d) hb
 ·exact List.pairwise_map.2 hT.ap
 ·obtain⟨y,d,rfl⟩:=q_.1 hr;exact hK g (.inr ⟨y,d,hg⟩)
 obtain⟨y,d,rfl⟩:=q_.1 hr;have:=h8 y d;show y.1.2.length<_;omega
theorem ar.ownSegs {tl:List Gv}(h:ar w Q G σ τ N)(hb1:Bl w w1)(hb:Bl w1 W)(hT:dq w.heap.size w1 v tl)(hle:tl.length<=200100)(h8:∀y∈tl,y.1.1.length<1048576)(hN:N<549000000000):
 c_ 141 #[Px Q.bb,v] W λe w'=>e=.returned (.tuple #[])/\ar w' Q G σ τ (N+900000)/\ax W w' G:=by
 obtain⟨a,c,rfl⟩:=ag hT.row
 have i:∀b,((Value.slice a tl.length c).ownBlock=some b\/∃y∈tl,y.2.ownBlock=some b)->w.heap.size<=b/\b<w1.heap.size:=λb hb'=>by
  rcases hb' with j|⟨y,d,j⟩
  ·exact f_ hT.row b j
  exact f_ (hT.ids y d) b j
 have:=((h.widen hb1).later hb).doS (G:=G) (m:=4*tl.length+4) (f:=141) (args:=#[Px Q.bb,.slice a tl.length c]) (S:=λb=>(Value.slice a tl.length c).ownBlock=some b\/∃y∈tl,y.2.ownBlock=some b) (λ_ h=>.inl h) h.gw (λb hb'=>⟨.inr (i b hb'),λhG=>by have:=h.gl b hG;have:=i b hb';omega⟩) λK hB hK=>Ep tl (tl.map rGv) a tl.length c Q.bb w.heap.size N K W hB (by omega) rfl (eL hT.row hb) (λg hg=>hK g (.inl hg)) ⟨λr hr=>?_,?_,λr hr g hg=>?_,λr hr=>?_⟩ (by rw[y_];rfl) (jS (by omega)) (by omega)
 ·exact this.mono λe w' ⟨h1,h2,h3⟩=>⟨h1,h2.more (by omega),h3⟩
 ·obtain⟨y,d,rfl⟩:=q_.1 hr;exact eL (hT.ids y d) hb
 ·exact List.pairwise_map.2 hT.ap
 ·obtain⟨y,d,rfl⟩:=q_.1 hr;exact hK g (.inr ⟨y,d,hg⟩)
 obtain⟨y,d,rfl⟩:=q_.1 hr;have:=h8 y d;show y.1.1.length<_;omega
theorem nQ (hb:Bl w W):∀{js:List Jv},(∀y∈js,∃fl:List Fl,w.ownsRow base 80 2 y.2.2 fl.length (fl.flatMap cF)/\fE fl y.1.2.2.2/\fl.length<=N)->∃rs:List (Value×Nat×List Value),rs.map Prod.fst=js.map (λy=>y.2.2)/\∀r∈rs,W.ownsRow base 80 2 r.1 r.2.1 r.2.2/\r.2.1<=N
 |[],_=>⟨[],rfl,by simp⟩
 |y::l,h=>by
  obtain⟨rs,e,hr⟩:=nQ hb (js:=l) λy hy=>h y (List.mem_cons_of_mem _ hy)
  obtain⟨fl,b,_,c⟩:=h y (D_ ..)
  refine⟨(y.2.2,fl.length,fl.flatMap cF)::rs,by rw[C_,C_,e],λr a=>?_⟩
  rcases R_.1 a with rfl|a
  ·exact⟨eL b hb,c⟩
  exact hr r a
theorem ar.ownJobs {tl:List Jv}(h:ar w Q G σ τ N)(hb1:Bl w w1)(hb:Bl w1 W)(hT:cj w.heap.size M w1 v tl)(hM:M<1099511627776)(hle:tl.length<=100100)(h8:∀y∈tl,y.1.2.2.1.length<1048576)(hN:N<549000000000):
 c_ 142 #[Px Q.bb,v] W λe w'=>e=.returned (.tuple #[])/\ar w' Q G σ τ (N+900000)/\ax W w' G:=by
 obtain⟨a,d,rfl⟩:=ag hT.row;obtain⟨p,l,k⟩:=nQ hb hT.tree
 have j:∀b,((Value.slice a tl.length d).ownBlock=some b\/∃y∈tl,y.2.1.ownBlock=some b\/y.2.2.ownBlock=some b)->w.heap.size<=b/\b<w1.heap.size:=λb hb'=>by
  rcases hb' with i|⟨y,c,i|i⟩
  ·exact f_ hT.row b i
  ·exact f_ (hT.ids y c) b i
  obtain⟨s,n,_⟩:=hT.tree y c;exact f_ n b i
 have:=((h.widen hb1).later hb).doS (G:=G) (m:=8*tl.length+4) (f:=142) (args:=#[Px Q.bb,.slice a tl.length d]) (S:=λb=>(Value.slice a tl.length d).ownBlock=some b\/∃y∈tl,y.2.1.ownBlock=some b\/y.2.2.ownBlock=some b) (λ_ h=>.inl h) h.gw (λb hb'=>⟨.inr (j b hb'),λhG=>by have:=h.gl b hG;have:=j b hb';omega⟩) λK hB hK=>Eq tl (tl.map rJv) p a tl.length d Q.bb w.heap.size N K W hB (by omega) rfl (eL hT.row hb) (λg hg=>hK g (.inl hg)) ⟨λr hr=>?_,?_,λr hr g hg=>?_,λr hr=>?_⟩ (by rw[y_];rfl) ⟨λr hr=>(k r hr).1,?_,λr hr g hg=>?_,λr hr=>?_⟩ l (jS (by omega)) (by omega)
 ·exact this.mono λe w' ⟨n,h2,h3⟩=>⟨n,h2.more (by omega),h3⟩
 ·obtain⟨y,c,rfl⟩:=q_.1 hr;exact eL (hT.ids y c) hb
 ·exact List.pairwise_map.2 (hT.ap.imp λh=>h.1)
 ·obtain⟨y,c,rfl⟩:=q_.1 hr;exact hK g (.inr ⟨y,c,.inl hg⟩)
 ·obtain⟨y,c,rfl⟩:=q_.1 hr;have:=h8 y c;show y.1.2.2.1.length<_;omega
 ·have q:(p.map Prod.fst).Pairwise λa b=>∀g,a.ownBlock=some g->b.ownBlock≠some g:=by
   rw[l];exact List.pairwise_map.2 (hT.ap.imp λh=>h.2)
  exact List.pairwise_map.1 q
 ·have o:=x_ (f:=Prod.fst) hr;rw[l] at o;obtain⟨y,c,e⟩:=q_.1 o;exact hK g (.inr ⟨y,c,.inr (by rw[e];exact hg)⟩)
 have:=(k r hr).2;omega
theorem iX (l:List Nat)(u v:Value)(w:World)(hu:Sl w 3 1 u l.length (l.map cI))(hv:Sl w 3 1 v l.length (l.map cI))(hn:l.length<1099511627776):
 c_ 80 #[u,v] w λe w'=>e=.returned (.bool true)/\de w w':=by
 obtain⟨a,s,rfl⟩:=hu.form;obtain⟨b,x,rfl⟩:=hv.form;have f:=hd hu;have h:=hd hv;clear hu hv;go_enter func80,ntmps80;go_wp2_with fail;go_loopw [5] (λi wr=>∃k m:Nat,k<=l.length/\i=I k/\wr=w.drewN m) (λi _=>l.length-(intOf i).toNat)
 case atStart=>exact⟨0,0,k_ _,rfl,rfl⟩
 obtain⟨k,m,y,rfl,rfl⟩:=hrel;by_cases hlt:k<l.length
 ·obtain⟨g,d,o,e,_⟩:=f.out.addr (by omega);cases e
  obtain⟨p,c,n,e,_⟩:=h.out.addr (by omega);cases e
  have q:w.cell? ⟨g,d+k,none⟩=some (I l[k]):=f.out.cell (j:=k) (by simp[hlt,cI]);have r:w.cell? ⟨p,c+k,none⟩=some (I l[k]):=h.out.cell (j:=k) (by simp[hlt,cI]);generalize l[k]=t at *;go_wp2_with fail;go_quiet (fail);go_wp2_with fail;exact⟨⟨k+1,_,hlt,by go_num,rfl⟩,by simp[intOf];omega⟩
 go_wp2_with fail;go_ret;exact⟨rfl,m,rfl⟩
theorem py {a:Option Addr}{c:Nat}{l:List Tp}(h:Sl w 110 2 (.slice a m c) n (l.flatMap cTp)){i:Nat}(hi:i<l.length):∃g off,a=some ⟨g,off,none⟩/\w.cell? ⟨g,off+i*2,none⟩=some (I l[i].1.1)/\w.cell? ⟨g,off+i*2+1,none⟩=some (l[i].2):=by
 have f:0<n:=by
  rcases Nat.eq_zero_or_pos n with e|e
  ·have:=h.1;rw[aR cTp 2 (λ_=>rfl),e] at this;omega
  exact e
 obtain⟨g,off,d,e,_⟩:=h.addr f;cases e
 have b:∀j (u:Value),j<2->(cTp l[i])[j]? =some u->w.cell? ⟨g,off+(i*2+j),none⟩=some u:=λj u hj hu=>h.cell (by rw[aq cTp 2 (λ_=>rfl) l i j hi hj];exact hu);exact⟨g,off,rfl,b 0 _ (by decide) rfl,b 1 _ (by decide) rfl⟩
theorem Er (Q:Pq)(hQ:Q.Ok)(G:Nat->Prop)(σ:Sg)(N:Nat)(w:World)(h:ar w Q G σ σ N)(hn:σ.rs.length<200100)(hN:N<549000000000):
 c_ 95 #[Px Q.wb] w λe w'=>eC w w' e Q G σ (N+900000):=by
 have hx:=h.askP λX hP=>Ek X Q.xb Q.c σ Q.n Q.g w hP h.okp hQ.c (by omega);have HY:Hid (∀W,Bl w W->c_ 136 #[Px Q.yb] W λe w'=>uq w' e Q.c Q.g σ/\Bl W w'):=λW hb=>(h.later hb).askR λR hR=>CR R Q.yb Q.c σ Q.fv Q.ss W hR Q.g Q.n hQ.ss h.okr hQ.c (by omega);have r:=h.okp.fits.inv hQ.c
 have ab:((Ts.all Q.c Q.g σ.rs).main).length<=200100:=by
  have h1:=r.1.main;have h2:=r.1.cnt;have h3:=r.2.ids;omega
 have C:∀t∈(Ts.all Q.c Q.g σ.rs).main,t.2.length<1048576:=by
  intro t ht;have:=h.okp.fits.mainOk hQ.c t ht;omega
 have HO:Hid (∀(V W:World) (v:Value) (tl:List Tp),Bl w V->Bl V W->ix w.heap.size V v tl->tl.length<=200100->(∀y∈tl,y.1.2.length<1048576)->c_ 137 #[Px Q.bb,v] W λe w'=>e=.returned (.tuple #[])/\ar w' Q G σ σ (N+900000)/\ax W w' G):=λV W v tl b hb hT hle h8=>ar.ownTips h b hb hT hle h8 hN;have b0:=h.box.c 0 (Px Q.xb);have b1:=h.box.c 1 (Px Q.yb);have b2:=h.box.c 2 (Px Q.bb);have av:∀W:World,(binOp .neq 106 (Zn) (Zn)).run prog W=.ok (.bool false) W:=λW=>run_neq_slice_nil_any W _ _ _ _ _ _ _ underlying106;clear h hQ r;unfold eC;generalize ak:Q.wb=wb at *;generalize am:Q.xb=xb at *;generalize an:Q.yb=yb at *;generalize ai:Q.bb=bb at *;unfold uq at HY;unfold sH at hx;generalize (Ts.all Q.c Q.g σ.rs).main=tq at *;have Z:=hd C;clear ak am an ai C;obtain⟨n,T⟩:∃n,n=tq.length:=⟨_,rfl⟩;have HN:=hd T;rw[<-T] at ab;clear T;go_enter func95,ntmps95;go_wp2_with fail;go_fit hx;rintro e V ⟨al,b⟩;have d1:=ae b b1;have Y:=HY.out V b;have E:=hd b;clear hx b HY;rcases al with ⟨hu,v1,D,rfl,f,s⟩|⟨hu,rfl⟩
 ·have P:D.length=n:=by rw[HN.out,<-f,d_]
  obtain⟨a1,c1,rfl⟩:=ag s.row;rw[P] at s ⊢;have L:=hd s;have H:=hd f;have aa:=hd P;clear f s P;go_wp2_with fail;go_fit Y;rintro e w2 ⟨U,d⟩;rcases U with ⟨_,v2,l2,rfl,o⟩|⟨q,rfl⟩
  ·have S:l2.length=n:=by rw[HN.out,<-o.fst,d_]
   obtain⟨a2,c2,rfl⟩:=o.row.form;rw[S] at o ⊢;have M:=hd o;have ah:=hd S;have af:=hd d;have F:=hd (aj E.out d);clear o S d Y d1 hu;go_wp2_with fail;go_loopw [7] (λiv wr=>∃i:Nat,i<=n/\iv=I i/\Hid (Bl w2 wr)) (λi _=>n-(intOf i).toNat)
   case atStart=>exact⟨0,k_ _,rfl,n_ _ _⟩
   obtain⟨i,hi,rfl,a⟩:=hrel;have j:=hd (aj af.out a.out);have B:=hd (aj F.out a.out);by_cases hlt:i<n
   ·have x:i<D.length:=by rw[aa.out];exact hlt
    have O:i<l2.length:=by rw[ah.out];exact hlt
    have ht:D[i].1=l2[i].1:=by
     have h:=congrArg (λl=>l[i]?) (H.out.trans M.out.fst.symm);simpa[x,O] using h
    have ad:D[i].1∈tq:=by rw[<-H.out];exact x_ (i_ x)
    obtain⟨g1,o1,e1,x0,x1⟩:=py ((Sl.of_row L.out.row).later j.out) x;obtain⟨g2,o2,e2,y0,y1⟩:=py (M.out.row.later a.out) O;subst e1;subst e2;have A:=(Sl.of_row (L.out.ids _ (i_ x))).later j.out;have p:=(M.out.ids _ (i_ O)).later a.out;rw[<-ht] at p;rw[<-ht] at y0;obtain⟨ao,aq,f⟩:=A.form;obtain⟨ap,au,ac⟩:=p.form;rw[f] at A x1;rw[ac] at p y1;have hS:=iX D[i].1.2 _ _ wr.drew (A.kept λ_ _=>rfl) (p.kept λ_ _=>rfl) (by have:=Z.out _ ad;omega);clear A p f ac ht ad;generalize D[i].1.2.length=z at *;generalize D[i].1.1=t0 at *;go_wp2_with fail;go_region_held_law (λw'=>w'.cell? ⟨g1,o1+i*2+1,none⟩=some (.slice ao z aq)/\w'.cell? ⟨g2,o2+i*2+1,none⟩=some (.slice ap z au)) (go_keep) ((go_at_call 80;refine hS.mono ?_;rintro e w3 ⟨rfl,m3,rfl⟩))
    all_goals
     go_wp2_with fail;go_quiet (fail);go_wp2_with fail;exact⟨⟨i+1,hlt,by go_num,⟨a.out.os,a.out.tape,a.out.output,a.out.size,a.out.block⟩⟩,by simp[intOf];omega⟩
   have hO:=HO.out V wr (.slice a1 n c1) D E.out j.out L.out (by rw[aa.out];omega) (λy Y=>Z.out y.1 (by rw[<-H.out];exact x_ Y));have d2:=ae B.out b2;go_wp2_with fail;go_fit hO;rintro e w5 ⟨rfl,m,k⟩;have K:=hd m;have J:=hd ((ax.of_below B.out).trans k);clear hO m k;go_wp2_with fail;go_ret;exact⟨rfl,K.out,J.out⟩
  rw[hu] at q;cases q
 go_wp2_with fail;go_fit Y;rintro e w2 ⟨U,d⟩;rcases U with ⟨q,_⟩|⟨_,rfl⟩
 ·rw[hu] at q;cases q
 have u:=aj E.out d;have hO:=HO.out w w2 (Zn) [] (n_ _ _) u ⟨B_ _ _ _ _,by simp,.nil⟩ (k_ _) (by simp);have F:=hd u;have d2:=ae u b2;clear Y d u HO d1;go_wp2_with fail;refine wp_loop_rounds 1 ?_;rw[rounds_succ];go_wp2_with fail;go_fit hO;rintro e w5 ⟨rfl,m,k⟩;have K:=hd m;have J:=hd ((ax.of_below F.out).trans k);clear hO m k;go_wp2_with fail;go_ret;exact⟨rfl,K.out,J.out⟩
theorem nS {a:Option Addr}{c:Nat}{l:List Gv}(h:Sl w 119 4 (.slice a m c) n (l.flatMap cGv)){i:Nat}(hi:i<l.length):∃g off,a=some ⟨g,off,none⟩/\w.cell? ⟨g,off+i*4,none⟩=some (l[i].2)/\w.cell? ⟨g,off+i*4+1,none⟩=some (I l[i].1.2.1)/\w.cell? ⟨g,off+i*4+2,none⟩=some (.bool l[i].1.2.2.1)/\w.cell? ⟨g,off+i*4+3,none⟩=some (I l[i].1.2.2.2):=by
 have f:0<n:=by
  rcases Nat.eq_zero_or_pos n with e|e
  ·have:=h.1;rw[aR cGv 4 (λ_=>rfl),e] at this;omega
  exact e
 obtain⟨g,off,d,e,_⟩:=h.addr f;cases e
 have b:∀j (u:Value),j<4->(cGv l[i])[j]? =some u->w.cell? ⟨g,off+(i*4+j),none⟩=some u:=λj u hj hu=>h.cell (by rw[aq cGv 4 (λ_=>rfl) l i j hi hj];exact hu);exact⟨g,off,rfl,b 0 _ (by decide) rfl,b 1 _ (by decide) rfl,b 2 _ (by decide) rfl,b 3 _ (by decide) rfl⟩
theorem C8 (Q:Pq)(hQ:Q.Ok)(G:Nat->Prop)(σ:Sg)(N:Nat)(w:World)(h:ar w Q G σ σ N)(hn:σ.rs.length<200100)(hN:N<549000000000):
 c_ 97 #[Px Q.wb] w λe w'=>eC w w' e Q G σ (N+900000):=by
 have hx:=h.askP λX hP=>CZ X Q.xb Q.c σ Q.n Q.g w hP h.okp hQ.c;have HY:Hid (∀W,Bl w W->c_ 140 #[Px Q.yb] W λe w'=>ur w' e Q.c Q.g σ/\Bl W w'):=λW hb=>(h.later hb).askR λR hR=>Bo R Q.yb Q.c σ Q.fv Q.ss W hR Q.g Q.n hQ.ss h.okr hQ.c (by omega);have s:=h.okp.fits.inv hQ.c
 have ac:((Ts.all Q.c Q.g σ.rs).segs.map dj).length<=200100:=by
  have h1:=s.1.tr;have h2:=dP s.1.sm;rw[d_];omega
 have E:∀t∈(Ts.all Q.c Q.g σ.rs).segs.map dj,t.1.length<1048576:=by
  intro t V;obtain⟨x,hx,rfl⟩:=q_.1 V;have h1:=s.1.tr;have h2:=mh hx;show (x.l.map Prod.fst).length<_;rw[d_];omega
 have HO:Hid (∀(Z W:World) (v:Value) (tl:List Gv),Bl w Z->Bl Z W->dq w.heap.size Z v tl->tl.length<=200100->(∀y∈tl,y.1.1.length<1048576)->c_ 141 #[Px Q.bb,v] W λe w'=>e=.returned (.tuple #[])/\ar w' Q G σ σ (N+900000)/\ax W w' G):=λZ W v tl b hb hT hle h8=>ar.ownSegs h b hb hT hle h8 hN;have b0:=h.box.c 0 (Px Q.xb);have b1:=h.box.c 1 (Px Q.yb);have b2:=h.box.c 2 (Px Q.bb);have aw:∀W:World,(binOp .neq 115 (Zn) (Zn)).run prog W=.ok (.bool false) W:=λW=>run_neq_slice_nil_any W _ _ _ _ _ _ _ underlying115;clear h hQ s;unfold eC;generalize al:Q.wb=wb at *;generalize an:Q.xb=xb at *;generalize ao:Q.yb=yb at *;generalize ak:Q.bb=bb at *;unfold ur at HY;unfold pv at hx;generalize (Ts.all Q.c Q.g σ.rs).segs.map dj=tq at *;have aa:=hd E;clear al an ao ak E;obtain⟨n,U⟩:∃n,n=tq.length:=⟨_,rfl⟩;have HN:=hd U;rw[<-U] at ac;clear U;go_enter func97,ntmps97;go_wp2_with fail;go_fit hx;rintro e Z ⟨am,b⟩;have d1:=ae b b1;have hy:=HY.out Z b;have F:=hd b;clear hx b HY;rcases am with ⟨hu,v1,r,rfl,f,u⟩|⟨hu,rfl⟩
 ·have S:r.length=n:=by rw[HN.out,<-f,d_]
  obtain⟨a1,c1,rfl⟩:=ag u.row;rw[S] at u ⊢;have M:=hd u;have J:=hd f;have ab:=hd S;clear f u S;go_wp2_with fail;go_fit hy;rintro e w2 ⟨Y,d⟩;rcases Y with ⟨_,v2,l2,rfl,o⟩|⟨q,rfl⟩
  ·have T:l2.length=n:=by rw[HN.out,<-o.fst,d_]
   obtain⟨a2,c2,rfl⟩:=o.row.form;rw[T] at o ⊢;have O:=hd o;have ai:=hd T;have ah:=hd d;have H:=hd (aj F.out d);clear o T d hy d1 hu;go_wp2_with fail;go_loopw [7] (λiv wr=>∃i:Nat,i<=n/\iv=I i/\Hid (Bl w2 wr)) (λi _=>n-(intOf i).toNat)
   case atStart=>exact⟨0,k_ _,rfl,n_ _ _⟩
   obtain⟨i,hi,rfl,a⟩:=hrel;have j:=hd (aj ah.out a.out);have D:=hd (aj H.out a.out);by_cases hlt:i<n
   ·have B:i<r.length:=by rw[ab.out];exact hlt
    have P:i<l2.length:=by rw[ai.out];exact hlt
    have V:r[i].1=l2[i].1:=by
     have h:=congrArg (λl=>l[i]?) (J.out.trans O.out.fst.symm);simpa[B,P] using h
    have af:r[i].1∈tq:=by rw[<-J.out];exact x_ (i_ B)
    obtain⟨g1,o1,e1,x0,x1,x2,x3⟩:=nS ((Sl.of_row M.out.row).later j.out) B;obtain⟨g2,o2,e2,y0,y1,y2,y3⟩:=nS (O.out.row.later a.out) P;subst e1;subst e2;have C:=(Sl.of_row (M.out.ids _ (i_ B))).later j.out;have p:=(O.out.ids _ (i_ P)).later a.out;rw[<-V] at p;rw[<-V] at y1;rw[<-V] at y2;rw[<-V] at y3;obtain⟨ap,au,f⟩:=C.form;obtain⟨aq,av,ad⟩:=p.form;rw[f] at C x0;rw[ad] at p y0;have hS:=iX r[i].1.1 _ _ wr.drew (C.kept λ_ _=>rfl) (p.kept λ_ _=>rfl) (by have:=aa.out _ af;omega);clear C p f ad V af;generalize r[i].1.1.length=z at *;generalize r[i].1.2.1=t1 at *;generalize r[i].1.2.2.1=t2 at *;generalize r[i].1.2.2.2=t3 at *;go_wp2_with fail;go_region_held_law (λw'=>w'.cell? ⟨g1,o1+i*4,none⟩=some (.slice ap z au)/\w'.cell? ⟨g2,o2+i*4,none⟩=some (.slice aq z av)) (go_keep) ((go_at_call 80;refine hS.mono ?_;rintro e w3 ⟨rfl,m3,rfl⟩))
    all_goals
     go_wp2_with fail;go_quiet (fail);go_wp2_with fail;exact⟨⟨i+1,hlt,by go_num,⟨a.out.os,a.out.tape,a.out.output,a.out.size,a.out.block⟩⟩,by simp[intOf];omega⟩
   have hO:=HO.out Z wr (.slice a1 n c1) r F.out j.out M.out (by rw[ab.out];omega) (λy hy=>aa.out y.1 (by rw[<-J.out];exact x_ hy));have d2:=ae D.out b2;go_wp2_with fail;go_fit hO;rintro e w5 ⟨rfl,m,k⟩;have L:=hd m;have K:=hd ((ax.of_below D.out).trans k);clear hO m k;go_wp2_with fail;go_ret;exact⟨rfl,L.out,K.out⟩
  rw[hu] at q;cases q
 go_wp2_with fail;go_fit hy;rintro e w2 ⟨Y,d⟩;rcases Y with ⟨q,_⟩|⟨_,rfl⟩
 ·rw[hu] at q;cases q
 have A:=aj F.out d;have hO:=HO.out w w2 (Zn) [] (n_ _ _) A ⟨B_ _ _ _ _,by simp,.nil⟩ (k_ _) (by simp);have H:=hd A;have d2:=ae A b2;clear hy d A HO d1;go_wp2_with fail;refine wp_loop_rounds 1 ?_;rw[rounds_succ];go_wp2_with fail;go_fit hO;rintro e w5 ⟨rfl,m,k⟩;have L:=hd m;have K:=hd ((ax.of_below H.out).trans k);clear hO m k;go_wp2_with fail;go_ret;exact⟨rfl,L.out,K.out⟩
variable{L:Nat}{α:Type}{lane:α->Nat}
theorem sN:∀(l:List Sm) (acc:List Nat),∀y∈bR l acc,y.2.2.1.length<=acc.length+az l
 |[],_,y,h=>by simp[bR] at h
 |x::l,acc,y,h=>by
  rw[dm] at h
  have ht:az (x::l)=x.l.length+az l:=by simp[az]
  rcases E_.1 h with h|h
  ·unfold jb at h
   split at h
   ·obtain rfl:=o_.1 h
    simp
    omega
   simp at h
  have:=sN l _ y h
  simp at this
  omega
theorem C9 {q:List α}{x:α}(h:x∈rkG lane q L):x∈q:=(Z_.1 ((fJ lane q L).mem_iff.1 h)).1
theorem pz {a:Option Addr}{c:Nat}{l:List Jv}(h:Sl w 124 4 (.slice a m c) n (l.flatMap cJv)){i:Nat}(hi:i<l.length):∃g off,a=some ⟨g,off,none⟩/\w.cell? ⟨g,off+i*4,none⟩=some (I l[i].1.1)/\w.cell? ⟨g,off+i*4+1,none⟩=some (I l[i].1.2.1)/\w.cell? ⟨g,off+i*4+2,none⟩=some l[i].2.1/\w.cell? ⟨g,off+i*4+3,none⟩=some l[i].2.2:=by
 have f:0<n:=by
  rcases Nat.eq_zero_or_pos n with e|e
  ·have:=h.1;rw[aR cJv 4 (λ_=>rfl),e] at this;omega
  exact e
 obtain⟨g,off,d,e,_⟩:=h.addr f;cases e
 have b:∀j (u:Value),j<4->(cJv l[i])[j]? =some u->w.cell? ⟨g,off+(i*4+j),none⟩=some u:=λj u hj hu=>h.cell (by rw[aq cJv 4 (λ_=>rfl) l i j hi hj];exact hu);exact⟨g,off,rfl,b 0 _ (by decide) rfl,b 1 _ (by decide) rfl,b 2 _ (by decide) rfl,b 3 _ (by decide) rfl⟩
theorem Es (Q:Pq)(hQ:Q.Ok)(G:Nat->Prop)(σ:Sg)(N:Nat)(w:World)(h:ar w Q G σ σ N)(hn:σ.rs.length<200100)(hN:N<549000000000):
 c_ 98 #[Px Q.wb] w λe w'=>eC w w' e Q G σ (N+900000):=by
 have hx:=h.askP λX hP=>Ej X Q.xb Q.c σ Q.n Q.g w hP h.okp hQ.c (by omega) hQ.ss.n;have HY:Hid (∀W,Bl w W->c_ 92 #[Px Q.yb] W λe w'=>qG w' e Q.c Q.g Q.n σ/\Bl W w'):=λW hb=>(h.later hb).askR λR hR=>zE R Q.yb Q.c σ Q.fv Q.ss W hR Q.g Q.n hQ.ss h.okr hQ.c (by omega);have d:=h.okp.fits.inv hQ.c
 have an:((Ts.all Q.c Q.g σ.rs).jobs).length<=100100:=by
  have h1:=d.1.tr;have h2:=dP d.1.sm;have h3:=dK (Ts.all Q.c Q.g σ.rs).segs [];have h4:=jO (λy:Jbt=>y.1) (bR (Ts.all Q.c Q.g σ.rs).segs []) ((Ts.all Q.c Q.g σ.rs).begun+1);show (rkG _ _ _).length<=_;omega
 have O:∀t∈(Ts.all Q.c Q.g σ.rs).jobs,t.2.2.1.length<1048576:=by
  intro t ht;have h1:=d.1.tr;have h2:=sN (Ts.all Q.c Q.g σ.rs).segs [] t (C9 ht);simp at h2;omega
 have HO:Hid (∀(w1 W:World) (v:Value) (tl:List Jv),Bl w w1->Bl w1 W->cj w.heap.size ((Ts.all Q.c Q.g σ.rs).top Q.n) w1 v tl->tl.length<=100100->(∀y∈tl,y.1.2.2.1.length<1048576)->c_ 142 #[Px Q.bb,v] W λe w'=>e=.returned (.tuple #[])/\ar w' Q G σ σ (N+900000)/\ax W w' G):=λw1 W v tl f hb hT hle h8=>ar.ownJobs h f hb hT (by have h1:=d.2.ids;have h2:=hQ.ss.n;unfold Ts.top;omega) hle h8 hN;have b0:=h.box.c 0 (Px Q.xb);have b1:=h.box.c 1 (Px Q.yb);have b2:=h.box.c 2 (Px Q.bb);have aO:∀W:World,(binOp .neq 120 (Zn) (Zn)).run prog W=.ok (.bool false) W:=λW=>run_neq_slice_nil_any W _ _ _ _ _ _ _ underlying120
 have am:Hid ((Ts.all Q.c Q.g σ.rs).top Q.n<1099511627776):=by
  have h1:=d.2.ids;have h2:=hQ.ss.n;show (Ts.all Q.c Q.g σ.rs).top Q.n<_;unfold Ts.top;omega
 clear h hQ d;unfold eC;generalize aG:Q.wb=wb at *;generalize aI:Q.xb=xb at *;generalize aJ:Q.yb=yb at *;generalize aF:Q.bb=bb at *;unfold qG at HY;unfold sG at hx;generalize (Ts.all Q.c Q.g σ.rs).jobs=tq at *;have ak:=hd O;clear aG aI aJ aF O;obtain⟨n,ab⟩:∃n,n=tq.length:=⟨_,rfl⟩;have HN:=hd ab;rw[<-ab] at an;clear ab;go_enter func98,ntmps98;go_wp2_with fail;go_fit hx;rintro e w1 ⟨aH,f⟩;have d1:=ae f b1;have hy:=HY.out w1 f;have S:=hd f;clear hx f HY;rcases aH with ⟨hu,v1,K,rfl,m,E⟩|⟨hu,rfl⟩
 ·have Z:K.length=n:=by rw[HN.out,<-m,d_]
  obtain⟨a1,c1,rfl⟩:=ag E.row;rw[Z] at E ⊢;have C:=hd E;have U:=hd m;have al:=hd Z;clear m E Z;go_wp2_with fail;go_fit hy;rintro e w2 ⟨ai,j⟩;rcases ai with ⟨_,v2,l2,rfl,s⟩|⟨B,rfl⟩
  ·have aa:l2.length=n:=by rw[HN.out,<-s.fst,d_]
   obtain⟨a2,c2,rfl⟩:=s.row.form;rw[aa] at s ⊢;have D:=hd s;have aE:=hd aa;have aD:=hd j;have T:=hd (aj S.out j);clear s aa j hy d1 hu;go_wp2_with fail;go_loopw [7] (λiv wr=>∃i:Nat,i<=n/\iv=I i/\Hid (Bl w2 wr)) (λi _=>n-(intOf i).toNat)
   case atStart=>exact⟨0,k_ _,rfl,n_ _ _⟩
   obtain⟨i,hi,rfl,k⟩:=hrel;have b:=hd (aj aD.out k.out);have L:=hd (aj T.out k.out);by_cases hlt:i<n
   ·have u:i<K.length:=by rw[al.out];exact hlt
    have H:i<l2.length:=by rw[aE.out];exact hlt
    have ht:K[i].1=l2[i].1:=by
     have h:=congrArg (λl=>l[i]?) (U.out.trans D.out.fst.symm);simpa[u,H] using h
    have aw:K[i].1∈tq:=by rw[<-U.out];exact x_ (i_ u)
    obtain⟨g1,o1,e1,x0,x1,x2,x3⟩:=pz ((Sl.of_row C.out.row).later b.out) u;obtain⟨g2,o2,e2,y0,y1,y2,y3⟩:=pz (D.out.row.later k.out) H;subst e1;subst e2;have J:=(Sl.of_row (C.out.ids _ (i_ u))).later b.out;have x:=(D.out.ids _ (i_ H)).later k.out;rw[<-ht] at x;rw[<-ht] at y0;rw[<-ht] at y1;obtain⟨M,af,P,ap⟩:=C.out.tree _ (i_ u);obtain⟨f2,ah,A,aq,_⟩:=D.out.tree _ (i_ H);rw[<-ht] at A;obtain rfl:M=f2:=P.unique A;have ac:=ay.later (ay.of_row af) b.out;have ad:=ay.of_sl (ah.later k.out);obtain⟨aK,aM,m⟩:=J.form;obtain⟨aL,aN,ao⟩:=x.form;obtain⟨az,aB,au⟩:=ag af;obtain⟨aA,aC,av⟩:=ah.form;rw[m] at J x2;rw[ao] at x y2;rw[au] at ac x3;rw[av] at ad y3;have hS:=iX K[i].1.2.2.1 _ _ wr.drew (J.kept λ_ _=>rfl) (x.kept λ_ _=>rfl) (by have:=ak.out _ aw;omega);have HF:Hid (∀W,Bl wr W->c_ 38 #[.slice az M.length aB,.slice aA M.length aC] W λe w'=>cD e (M=M)/\de W w'):=λW hb=>eM M M _ _ W (ac.later hb) (ad.later hb) (by have:=am.out;omega);clear J x m ao ht aw af P ap ah A aq ac ad au av;generalize K[i].1.2.2.1.length=z at *;generalize M.length=zf at *;generalize K[i].1.1=t0 at *;generalize K[i].1.2.1=t1 at *;go_wp2_with fail;go_cut [8] from 61 to 103 (λt wz=>t=.bool true/\Bl wr wz)
    case first=>
     go_region_held_law (λw'=>w'.cell? ⟨g1,o1+i*4+2,none⟩=some (.slice aK z aM)/\w'.cell? ⟨g2,o2+i*4+2,none⟩=some (.slice aL z aN)) (go_keep) ((go_at_call 80;refine hS.mono ?_;rintro e w3 ⟨rfl,m3,rfl⟩))
     all_goals
      go_wp2_with fail;go_meet
      case rel=>exact⟨rfl,⟨rfl,rfl,rfl,b_ _,λ_ _=>rfl⟩⟩
    obtain⟨rfl,a⟩:=hcut;rename World=>wz;have hF:=HF.out wz.drew ⟨a.os,a.tape,a.output,a.size,a.block⟩;have p0:=ae a x0;have p1:=ae a x1;have p3:=ae a x3;have q0:=ae a y0;have q1:=ae a y1;have q3:=ae a y3;have o:=hd (aj k.out a);clear x0 x1 x2 x3 y0 y1 y2 y3 hS a;go_wp2_with fail;go_region_held_law (λw'=>w'.cell? ⟨g1,o1+i*4+3,none⟩=some (.slice az zf aB)/\w'.cell? ⟨g2,o2+i*4+3,none⟩=some (.slice aA zf aC)) (go_keep) ((go_at_call 38;refine hF.mono ?_;rintro e w3 ⟨⟨r,rfl,hr⟩,m3,rfl⟩;obtain rfl:r=true:=hr.2 (by first|rfl|trivial);clear hr))
    all_goals
     go_wp2_with fail;go_quiet (fail);go_wp2_with fail;exact⟨⟨i+1,hlt,by go_num,⟨o.out.os,o.out.tape,o.out.output,o.out.size,o.out.block⟩⟩,by simp[intOf];omega⟩
   have hO:=HO.out w1 wr (.slice a1 n c1) K S.out b.out C.out (by rw[al.out];omega) (λy hy=>ak.out y.1 (by rw[<-U.out];exact x_ hy));have d2:=ae L.out b2;go_wp2_with fail;go_fit hO;rintro e w5 ⟨rfl,q,p⟩;have Y:=hd q;have V:=hd ((ax.of_below L.out).trans p);clear hO q p;go_wp2_with fail;go_ret;exact⟨rfl,Y.out,V.out⟩
  rw[hu] at B;cases B
 go_wp2_with fail;go_fit hy;rintro e w2 ⟨ai,j⟩;rcases ai with ⟨B,_⟩|⟨_,rfl⟩
 ·rw[hu] at B;cases B
 have F:=aj S.out j;have hO:=HO.out w w2 (Zn) [] (n_ _ _) F ⟨B_ _ _ _ _,by simp,by simp,.nil⟩ (k_ _) (by simp);have T:=hd F;have d2:=ae F b2;clear hy j F HO d1;go_wp2_with fail;refine wp_loop_rounds 1 ?_;rw[rounds_succ];go_wp2_with fail;go_fit hO;rintro e w5 ⟨rfl,q,p⟩;have Y:=hd q;have V:=hd ((ax.of_below T.out).trans p);clear hO q p;go_wp2_with fail;go_ret;exact⟨rfl,Y.out,V.out⟩
variable{N':Nat}{w':World}
theorem eC.more {e:Ending}(h:eC w w' e Q G σ N)(hN:N<=N'):eC w w' e Q G σ N':=⟨h.1,h.2.1.more hN,h.2.2⟩
theorem BT (Q:Pq)(hQ:Q.Ok)(G:Nat->Prop)(σ:Sg)(N:Nat)(kind:Int)(w:World)(h:ar w Q G σ σ N)(hn:σ.rs.length<200100)(hN:N<549000000000):
 c_ 53 #[Px Q.wb,I kind] w λe w'=>eC w w' e Q G σ (N+900000):=by
 have m:c_ 58 #[Px Q.wb] w λe w'=>eC w w' e Q G σ (N+900000):=(BS Q hQ G σ N w h (by omega)).mono λe w' ⟨h1,hb⟩=>by rw[h1];exact eC.of_below h hb (by omega)
 have g:c_ 99 #[Px Q.wb] w λe w'=>eC w w' e Q G σ (N+900000):=(Fn Q hQ G σ N w h (by omega)).mono λe w' ⟨h1,hb⟩=>by rw[h1];exact eC.of_below h hb (by omega)
 have a:=(Em Q hQ G σ N w h (by omega) (by omega)).mono λe w' (hS:eC w w' e Q G σ (N+4))=>hS.more (N':=N+900000) (by omega);have b:=Er Q hQ G σ N w h hn hN;have c:=(C6 Q hQ G σ N w h (by omega) (by omega)).mono λe w' (hS:eC w w' e Q G σ (N+4))=>hS.more (N':=N+900000) (by omega);have d:=C8 Q hQ G σ N w h hn hN;have f:=Es Q hQ G σ N w h hn hN;have u:Hid (eC w w (.returned (.bool true)) Q G σ (N+900000)):=eC.of_below h (n_ _ _) (by omega);clear h hQ;have C:kind=7\/kind=12\/kind=13\/kind=14\/kind=15\/kind=16\/kind=17\/(kind≠7/\kind≠12/\kind≠13/\kind≠14/\kind≠15/\kind≠16/\kind≠17):=by omega
 unfold eC at m a b c d f g ⊢;generalize Q.wb=F at *;rcases C with rfl|rfl|rfl|rfl|rfl|rfl|rfl|⟨D,o,p,q,r,s,t⟩
 ·clear a b c d f g;go_enter func53,ntmps53;go_wp2_with fail;go_fit m;rintro e n ⟨rfl,j,i⟩;have l:=hd j;have k:=hd i;clear j i m;go_wp2_with fail;go_ret;exact⟨rfl,l.out,k.out⟩
 ·clear m b c d f g;go_enter func53,ntmps53;go_wp2_with fail;go_fit a;rintro e n ⟨rfl,j,i⟩;have l:=hd j;have k:=hd i;clear j i a;go_wp2_with fail;go_ret;exact⟨rfl,l.out,k.out⟩
 ·clear m a c d f g;go_enter func53,ntmps53;go_wp2_with fail;go_fit b;rintro e n ⟨rfl,j,i⟩;have l:=hd j;have k:=hd i;clear j i b;go_wp2_with fail;go_ret;exact⟨rfl,l.out,k.out⟩
 ·clear m a b d f g;go_enter func53,ntmps53;go_wp2_with fail;go_fit c;rintro e n ⟨rfl,j,i⟩;have l:=hd j;have k:=hd i;clear j i c;go_wp2_with fail;go_ret;exact⟨rfl,l.out,k.out⟩
 ·clear m a b c f g;go_enter func53,ntmps53;go_wp2_with fail;go_fit d;rintro e n ⟨rfl,j,i⟩;have l:=hd j;have k:=hd i;clear j i d;go_wp2_with fail;go_ret;exact⟨rfl,l.out,k.out⟩
 ·clear m a b c d g;go_enter func53,ntmps53;go_wp2_with fail;go_fit f;rintro e n ⟨rfl,j,i⟩;have l:=hd j;have k:=hd i;clear j i f;go_wp2_with fail;go_ret;exact⟨rfl,l.out,k.out⟩
 ·clear m a b c d f;go_enter func53,ntmps53;go_wp2_with fail;go_fit g;rintro e n ⟨rfl,j,i⟩;have l:=hd j;have k:=hd i;clear j i g;go_wp2_with fail;go_ret;exact⟨rfl,l.out,k.out⟩
 clear m a b c d f g;have E:(kind==7)=false:=by simpa using D
 have v:(kind==12)=false:=by simpa using o
 have x:(kind==13)=false:=by simpa using p
 have y:(kind==14)=false:=by simpa using q
 have z:(kind==15)=false:=by simpa using r
 have A:(kind==16)=false:=by simpa using s
 have B:(kind==17)=false:=by simpa using t
 go_enter func53,ntmps53;go_wp2_with fail;go_ret;exact u.out
end
end Go.Proofs.YtgamgomepdfgdaaGreat
