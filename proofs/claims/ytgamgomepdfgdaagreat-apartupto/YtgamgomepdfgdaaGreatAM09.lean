import Derived.Lib.QuietBelow
import Derived.Test.YtgamgomepdfgdaaGreatAM08
set_option maxRecDepth 100000
set_option maxHeartbeats 8000000
namespace Go.Proofs.YtgamgomepdfgdaaGreat
open Go.RowKit Go.Proofs.Tryz
def BH (e:Ending)(p:Prop):Prop:=∃r:Int,e=.returned (I r)/\(0<=r↔p)
theorem oB (l:List Ed)(q:ByteArray)(b off cap bk:Nat)(w:World)(hlt:b<w.heap.size)(hbk:bk<w.heap.size)(hq:w.cell? ⟨bk,0,none⟩=some (.string q))(h0:∀i (h:i<l.length),w.cell? ⟨b,off+i*3,none⟩=some (.string l[i].1))(h1:∀i (h:i<l.length),w.cell? ⟨b,off+i*3+1,none⟩=some (.string l[i].2.1))(h2:∀i (h:i<l.length),w.cell? ⟨b,off+i*3+2,none⟩=some (.string l[i].2.2))(hn4:l.length<=4):
 c_ 278 #[s_ b off l.length cap,.func (.func 274) #[] #[Px bk]] w λe w'=>BH e (∃x∈l,x.1=q)/\Bl w w':=by
 go_enter func278,ntmps278;go_wp2;go_loopw [8] (λi wr=>∃k:Nat,k<=l.length/\i=I k/\Bl w wr/\Hid (∀j (h:j<k) (h':j<l.length),l[j].1≠q)) (λi _=>l.length-(intOf i).toNat)
 case atStart=>exact⟨0,k_ _,rfl,n_ _ _,λj h=>by omega⟩
 obtain⟨k,u,rfl,a,d⟩:=hrel;obtain⟨p,r,s,t⟩:=ct a hlt h0 h1 h2;have m:=(a.cell (by exact hbk)).trans hq;have g:=h_ hbk a.size;clear h0 h1 h2 hq;by_cases hlk:k<l.length
 ·have n:=ox l[k].1 l[k].2.1 l[k].2.2 q bk wr m g;go_wp2_with (go_at_call 274;refine n.mono ?_;rintro e w' ⟨rfl,rfl⟩)
  ·go_ret;exact⟨⟨k,rfl,⟨λ_=>⟨l[k],i_ hlk,(aY _ _).1 ‹_›⟩,λ_=>by omega⟩⟩,a.alloc a.size _⟩
  go_roundw
  case rel=>exact⟨k+1,hlk,by go_num,a.alloc a.size _,λx f hx'=>by
   by_cases e:x=k
   ·subst e;exact(bS _ _).1 ‹_›
   exact d.out x (by omega) hx'⟩
  case measure=>simp[intOf];omega
 go_wp2;go_ret;refine⟨⟨-1,rfl,⟨λh=>by omega,?_⟩⟩,a⟩;rintro⟨x,f,c⟩;obtain⟨j,o,rfl⟩:=Q_.1 f;exact absurd c (d.out j (by omega) o)
theorem mL (q:Value)(a:Option Addr)(cap:Nat)(w:World):
 c_ 278 #[.slice a 0 cap,q] w λe w'=>e=.returned (I (-1))/\w'=w:=by
 go_enter func278,ntmps278;go_wp2;go_loop [8] (λi=>i=I 0) (λ_=>0)
 case atStart=>rfl
 subst hrel;go_wp2;go_ret;exact⟨rfl,rfl⟩
theorem oz (l:List Ed)(q:ByteArray)(v:Value)(bk:Nat)(w:World)(hl:aH w v l)(hbk:bk<w.heap.size)(hq:w.cell? ⟨bk,0,none⟩=some (.string q))(hn4:l.length<=4):
 c_ 278 #[v,.func (.func 274) #[] #[Px bk]] w λe w'=>BH e (∃x∈l,x.1=q)/\Bl w w':=by
 rcases hl with ⟨rfl,a,c,rfl⟩|⟨b,f,c,rfl,d,g,i,j⟩
 ·refine(mL _ a c w).mono ?_;rintro e w' ⟨rfl,rfl⟩;exact⟨⟨-1,rfl,⟨λh=>by omega,λh=>by obtain⟨_,h,_⟩:=h;simp at h⟩⟩,n_ _ _⟩
 exact oB l q b f c bk w d hbk hq g i j hn4
theorem kN (l:List Ed)(q:ByteArray)(v:Value)(bk:Nat)(w:World)(hl:aH w v l)(hbk:bk<w.heap.size)(hq:w.cell? ⟨bk,0,none⟩=some (.string q))(hn4:l.length<=4):
 c_ 273 #[v,.func (.func 274) #[] #[Px bk]] w λe w'=>cD e (∃x∈l,x.1=q)/\Bl w w':=by
 have a:=oz l q v bk w hl hbk hq hn4;clear hl hq;generalize (∃x∈l,x.1=q)=p at a ⊢;go_enter func273,ntmps273;go_wp2_with (go_at_call 278;refine a.mono ?_;rintro e w' ⟨⟨r,rfl,c⟩,b⟩);go_ret;exact⟨⟨decide (0<=r),rfl,by rw[decide_eq_true_eq];exact c⟩,b⟩
theorem oA (l:List Ed)(q:ByteArray)(v:Value)(w:World)(hl:aH w v l)(hn4:l.length<=4):
 c_ 264 #[v,.string q] w λe w'=>cD e (∃x∈l,x.1=q)/\Bl w w':=by
 have a:Bl w (w.alloc (.cells #[.string q] 9)):=(n_ _ _).alloc (b_ _) _;have b:=kN l q v w.heap.size (w.alloc (.cells #[.string q] 9)) (hl.later a) (by simp) (by simp) hn4;clear hl;generalize (∃x∈l,x.1=q)=p at b ⊢;go_enter func264,ntmps264;go_wp2_with (go_at_call 273;refine b.mono ?_;rintro e w' ⟨⟨r,rfl,d⟩,c⟩);go_ret;exact⟨⟨r,rfl,d⟩,a.trans (c.mono (by simp))⟩
section
open Go.Sort
variable{b cap off:Nat}{w wr:World}
theorem oS (l:List Ed)(q:ByteArray)(v:Value)(w:World)(hl:aH w v l)(hn4:l.length<=4)(r:Bool)(hr:r=true↔∃x∈l,x.1=q):
 c_ 264 #[v,.string q] w λe w'=>e=.returned (.bool r)/\Bl w w':=by
 refine(oA l q v w hl hn4).mono ?_;rintro e w' ⟨⟨b,rfl,a⟩,c⟩
 have:b=r:=by
  have:=a.trans hr.symm;cases b<;>cases r<;>simp_all
 exact⟨by rw[this],c⟩
theorem pY (l:List Ed)(k:Nat)(hk:k<l.length):(∃x∈l.take k,x.1=l[k].1)↔∃j,∃h:j<k,(l[j]'(by omega)).1=l[k].1:=by
 constructor
 ·rintro⟨x,c,a⟩;obtain⟨j,b,rfl⟩:=Q_.1 c;rw[l_] at b;rw[List.getElem_take] at a;exact⟨j,by omega,a⟩
 rintro⟨j,b,a⟩;exact⟨_,Q_.2 ⟨j,by rw[l_];omega,by rw[List.getElem_take]⟩,a⟩
theorem tw {l:List Ed}(k:Nat)(hk:k<=l.length)(hlt:b<w.heap.size)(h0:∀i (h:i<l.length),w.cell? ⟨b,off+i*3,none⟩=some (.string l[i].1))(h1:∀i (h:i<l.length),w.cell? ⟨b,off+i*3+1,none⟩=some (.string l[i].2.1))(h2:∀i (h:i<l.length),w.cell? ⟨b,off+i*3+2,none⟩=some (.string l[i].2.2)):
 aH w (s_ b off k cap) (l.take k):=by
 have e:(l.take k).length=k:=by rw[l_];omega
 refine .inr ⟨b,off,cap,by rw[e],hlt,λi h=>?_,λi h=>?_,λi h=>?_⟩
 ·rw[List.getElem_take];exact h0 i _
 ·rw[List.getElem_take];exact h1 i _
 rw[List.getElem_take];exact h2 i _
theorem mN (hb:Bl w wr)(o:Obj)(d:Nat)(os:Array Obj):Bl w (grow (redrawn (wr.alloc o) d) os):=
 (hb.alloc hb.size o).trans ((below_regrown _ d os).mono (hb.alloc hb.size o).size)
theorem mO (l:List Ed)(b off cap:Nat)(w:World)(hlt:b<w.heap.size)(h0:∀i (h:i<l.length),w.cell? ⟨b,off+i*3,none⟩=some (.string l[i].1))(h1:∀i (h:i<l.length),w.cell? ⟨b,off+i*3+1,none⟩=some (.string l[i].2.1))(h2:∀i (h:i<l.length),w.cell? ⟨b,off+i*3+2,none⟩=some (.string l[i].2.2))(hn1:1<=l.length)(hn4:l.length<=4)(hcap:l.length<=cap):
 c_ 236 #[s_ b off l.length cap] w λe w'=>cD e (cB iI Prod.fst l)/\Bl w w':=by
 go_enter func236,ntmps236;go_wp2;go_loopw [15] (λi wr=>∃k:Nat,k<=l.length/\i=I k/\Bl w wr/\Hid (cB iI Prod.fst (l.take k))) (λi _=>l.length-(intOf i).toNat)
 case atStart=>exact⟨0,k_ _,rfl,n_ _ _,cB.nil _ _⟩
 obtain⟨k,H,rfl,o,B⟩:=hrel;obtain⟨C,D,E,F⟩:=ct o hlt h0 h1 h2;clear h0 h1 h2;by_cases hlk:k<l.length
 ·have q:Bl wr (wr.alloc (.cells #[.string l[k].1,.string l[k].2.1,.string l[k].2.2] 49)):=(n_ _ _).alloc (b_ _) _;have c:=λd os=>Calls.regrown_of (d:=d) (os:=os) (w:=wr.alloc (.cells #[.string l[k].1,.string l[k].2.1,.string l[k].2.2] 49)) (oy l[k].1 l[k].2.1 l[k].2.2 _);have s:=cell_regrown (w:=wr.alloc (.cells #[.string l[k].1,.string l[k].2.1,.string l[k].2.2] 49)) (a:=⟨wr.heap.size,0,none⟩) (v:=.string l[k].1) (by simp);have t:=cell_regrown (w:=wr.alloc (.cells #[.string l[k].1,.string l[k].2.1,.string l[k].2.2] 49)) (a:=⟨wr.heap.size,1,none⟩) (v:=.string l[k].2.1) (by simp);have u:=cell_regrown (w:=wr.alloc (.cells #[.string l[k].1,.string l[k].2.1,.string l[k].2.2] 49)) (a:=⟨wr.heap.size,2,none⟩) (v:=.string l[k].2.2) (by simp);by_cases hok:iI l[k]=true
  ·have r:jr l[k].1 l[k].2.1 l[k].2.2=true:=hok;have g:=tw (w:=wr) (cap:=cap) k H F C D E;have f:=pY l k hlk;by_cases hnm:∃x∈l.take k,x.1=l[k].1
   ·have n:=λd os=>Calls.regrown_of (d:=d) (os:=os) (w:=wr.alloc (.cells #[.string l[k].1,.string l[k].2.1,.string l[k].2.2] 49)) (oS (l.take k) l[k].1 _ _ ((g.later q).later (below_regrown _ d os)) (by rw[l_];omega) true ⟨λ_=>hnm,λ_=>rfl⟩)
    have y:Hid (¬cB iI Prod.fst l):=by
     obtain⟨j,A,z⟩:=f.1 hnm;exact ig hlk A z
    clear f hnm g hok;go_wp2;refine wp_region_quiet_below (by kernel_rfl) (by kernel_rfl) ?_;repeat (first|go_big_quiet_step (first|exact c _ _|exact n _ _)|quiet_step (first|exact c _ _|exact n _ _))
    refine wpQuiet_nil ?_;rintro _ ⟨p,rfl⟩;have m:=mN o (.cells #[.string l[k].1,.string l[k].2.1,.string l[k].2.2] 49) p.d p.os;generalize grow (redrawn _ p.d) p.os=wq at m ⊢;clear c n s t u;go_wp2;go_ret;exact⟨.no y.out,m⟩
   have n:=λd os=>Calls.regrown_of (d:=d) (os:=os) (w:=wr.alloc (.cells #[.string l[k].1,.string l[k].2.1,.string l[k].2.2] 49)) (oS (l.take k) l[k].1 _ _ ((g.later q).later (below_regrown _ d os)) (by rw[l_];omega) false ⟨λh=>Bool.noConfusion h,λh=>absurd h hnm⟩);have G:=hd ((i4 hlk).2 ⟨B.out,hok,λj A z=>hnm (f.2 ⟨j,A,z⟩)⟩);clear f hnm g hok;go_wp2;refine wp_region_quiet_below (by kernel_rfl) (by kernel_rfl) ?_;repeat (first|go_big_quiet_step (first|exact c _ _|exact n _ _)|quiet_step (first|exact c _ _|exact n _ _))
   refine wpQuiet_nil ?_;rintro _ ⟨p,rfl⟩;have m:=mN o (.cells #[.string l[k].1,.string l[k].2.1,.string l[k].2.2] 49) p.d p.os;generalize grow (redrawn _ p.d) p.os=wq at m ⊢;clear c n s t u;go_wp2;go_roundw
   case rel=>exact⟨k+1,hlk,by go_num,m,G⟩
   case measure=>simp[intOf];omega
  have y:Hid (¬cB iI Prod.fst l):=i6 hlk hok;have r:jr l[k].1 l[k].2.1 l[k].2.2=false:=by simpa[iI] using hok
  clear hok;go_wp2;refine wp_region_quiet_below (by kernel_rfl) (by kernel_rfl) ?_;repeat (first|go_big_quiet_step (exact c _ _)|quiet_step (exact c _ _))
  refine wpQuiet_nil ?_;rintro _ ⟨p,rfl⟩;have m:=mN o (.cells #[.string l[k].1,.string l[k].2.1,.string l[k].2.2] 49) p.d p.os;generalize grow (redrawn _ p.d) p.os=wq at m ⊢;clear c s t u;go_wp2;go_ret;exact⟨.no y.out,m⟩
 go_wp2;go_ret;refine⟨.yes ?_,o⟩;have:=B.out;rwa [m_ (by omega)] at this
theorem mP (n cap:Nat)(a:Option Addr)(w:World)(h:n<1\/4<n)(hn:n<8796093022208):
 c_ 236 #[.slice a n cap] w λe w'=>e=.returned (.bool false)/\w'=w:=by
 rcases h with h|h
 ·go_enter func236,ntmps236;go_wp2;go_ret;exact⟨rfl,rfl⟩
 have b:¬n<1:=by omega
 go_enter func236,ntmps236;go_wp2;go_ret;exact⟨rfl,rfl⟩
def q8:Value->Prop
 |.slice _ n cap=>n<=cap
 |_=>True
theorem mM (l:List Ed)(v:Value)(w:World)(hl:aH w v l)(hc:q8 v)(hn:l.length<8796093022208):
 c_ 236 #[v] w λe w'=>cD e (bT l)/\Bl w w':=by
 by_cases h:l.length<1\/4<l.length
 ·have n:∃a c,v=.slice a l.length c:=by
   rcases hl with ⟨rfl,a,c,rfl⟩|⟨b,d,c,rfl,_⟩
   ·exact⟨_,_,rfl⟩
   exact⟨_,_,rfl⟩
  obtain⟨a,c,rfl⟩:=n;refine(mP l.length c a w h hn).mono ?_;rintro e w' ⟨rfl,rfl⟩;exact⟨.no λhg=>by unfold bT at hg;omega,n_ _ _⟩
 rcases hl with ⟨rfl,_⟩|⟨b,d,c,rfl,f,g,i,j⟩
 ·simp at h
 refine(mO l b d c w f g i j (by omega) (by omega) hc).mono ?_;rintro e w' ⟨⟨r,rfl,m⟩,k⟩;exact⟨⟨r,rfl,m.trans ⟨λhg=>⟨by omega,by omega,hg⟩,λhg=>hg.2.2⟩⟩,k⟩
end
section
variable{css:List (List Value)}{es:List Ed}{rs:List Rc}{R:List UInt8}{xs:List Value}{B b base i k n:Nat}{row:Option Nat}{r:Rc}{t:TypeId}{ev v:Value}{W W' w w' w2 wr:World}
def q9 (W:World)(B:Nat)(r:Rc)(cs:List Value):Prop:=∃(l:Nat) (ea:Option Addr) (en ec i:Nat) (p:Bool) (q:Nat),cs=[I r.kind,I l,.slice ea en ec,I i,.bool p,I q]/\iF r B W l (.slice ea en ec) i p q
theorem du.kept {g:Nat}(h:du W g n k es)(hn:es.length=n)(hk:k=n)(hs:W.heap.size<=W'.heap.size)(hb:∀g s,W.cell? ⟨g,0,none⟩=some (.string s)->W'.heap[g]? =W.heap[g]?):du W' g n k es:=by
 subst hk;by_cases h0:k=0
 ·subst h0;exact⟨h_ h.1 hs,λj hj=>by omega,λi _ h=>by omega⟩
 have e:=hb g _ (by simpa using (h.2.2 0 (by omega) (by omega)).1);refine⟨h_ h.1 hs,λj hj=>⟨?_,?_⟩,λi hi hik=>?_⟩
 ·obtain⟨v,d⟩:=(h.2.1 j hj).1;exact⟨v,(L_ (w:=W) e).trans d⟩
 ·rw[<-(h.2.1 j hj).2];simp[World.frozen?,e]
 obtain⟨a,b,c⟩:=h.2.2 i hi hik;exact⟨(L_ (w:=W) e).trans a,(L_ (w:=W) e).trans b,(L_ (w:=W) e).trans c⟩
theorem iF.low {B':Nat}{l:Nat}{p:Bool}{q:Nat}(h:iF r B W l ev i p q)(hB:B'<=B):iF r B' W l ev i p q:=by
 obtain⟨a,⟨b,c,d,e,g,f,j,k⟩|h⟩:=h
 ·exact⟨a,.inl ⟨b,c,d,e,g,f,e_ hB j,k⟩⟩
 exact⟨a,.inr h⟩
theorem iF.kept {l:Nat}{p:Bool}{q:Nat}(h:iF r B W l ev i p q)(hs:W.heap.size<=W'.heap.size)(hb:∀g s,W.cell? ⟨g,0,none⟩=some (.string s)->W'.heap[g]? =W.heap[g]?):iF r B W' l ev i p q:=by
 obtain⟨a,⟨b,c,d,e,g,f,j,k⟩|h⟩:=h
 ·exact⟨a,.inl ⟨b,c,d,e,g,f,j,k.kept rfl rfl hs hb⟩⟩
 exact⟨a,.inr h⟩
theorem q9.kept {cs:List Value}(h:q9 W B r cs)(hs:W.heap.size<=W'.heap.size)(hb:∀g s,W.cell? ⟨g,0,none⟩=some (.string s)->W'.heap[g]? =W.heap[g]?):q9 W' B r cs:=by
 obtain⟨l,a,c,b,i,p,q,e,h⟩:=h;exact⟨l,a,c,b,i,p,q,e,h.kept hs hb⟩
structure gK (W:World)(B:Nat)(rs:List Rc)(css:List (List Value)):Prop where
 len:css.length=rs.length
 each:∀j (h:j<rs.length) (h':j<css.length),q9 W B rs[j] css[j]
theorem gK.kept (h:gK W B rs css)(hs:W.heap.size<=W'.heap.size)(hb:∀g s,W.cell? ⟨g,0,none⟩=some (.string s)->W'.heap[g]? =W.heap[g]?):gK W' B rs css:=
 ⟨h.len,λj h1 h2=>(h.each j h1 h2).kept hs hb⟩
theorem gK.nil (W:World)(B:Nat):gK W B [] []:=⟨rfl,λj h=>by simp at h⟩
theorem gK.snoc {cs:List Value}(h:gK W B rs css)(hr:q9 W B r cs):gK W B (rs++[r]) (css++[cs]):=by
 refine⟨by rw[a_,a_,h.len];rfl,λj h1 h2=>?_⟩;by_cases hj:j<rs.length
 ·rw[List.getElem_append_left hj,List.getElem_append_left (by rw[h.len];exact hj)];exact h.each j hj (by rw[h.len];exact hj)
 have e:j=rs.length:=by rw[a_] at h1;simp at h1;omega
 subst e
 have a:(css++[cs])[rs.length]'h2=cs:=by
  rw[List.getElem_append_right (by rw[h.len];exact b_ _)];simp[h.len]
 rw[a];simpa using hr
theorem gK.flat (h:gK W B rs css):∀cs∈css,cs.length=6:=by
 intro cs hc;obtain⟨j,a,rfl⟩:=Q_.1 hc;obtain⟨l,b,d,c,i,p,q,e,_⟩:=h.each j (by rw[<-h.len];exact a) a;rw[e];rfl
theorem xW:(prog.info? 140).map (λi=>(i.zero,i.size,i.bytes))=some (some (.agg eD),6,64):=by kernel_rfl
def mR (T:List UInt8):Prop:=∃(r:Rc) (m:Nat),r.ok/\m<9+r.body.length/\T=(kJ r.kind r.body).take m
def bq (rs:List Rc):List UInt8:=rs.flatMap Rc.bytes
theorem kO (h:k<rs.length):bq (rs.take (k+1))=bq (rs.take k)++rs[k].bytes:=by
 rw[bq,g_ h,r_];simp[bq]
theorem oT (rs:List Rc)(k:Nat)(T:List UInt8):(bq rs++T).drop (bq (rs.take k)).length=bq (rs.drop k)++T:=by
 have e:bq rs=bq (rs.take k)++bq (rs.drop k):=by
  rw[bq,bq,bq,<-r_,X_]
 rw[e,A_,List.drop_left' rfl]
theorem j7 (rs:List Rc)(k:Nat)(T:List UInt8):(bq (rs.take k)).length<=(bq rs++T).length:=by
 have e:bq rs=bq (rs.take k)++bq (rs.drop k):=by
  rw[bq,bq,bq,<-r_,X_]
 rw[e,a_,a_];omega
theorem BV.tail {a:Option Addr}{c:Nat}(h:BV w (.slice a R.length c) R){n o:Nat}(hn:n<=R.length)(g off:Nat)(ha:a=some ⟨g,off,none⟩)(ho:o=off+n\/c-n=0):BV w (s_ g o (R.length-n) (c-n)) (R.drop n):=by
 subst ha;rcases h with ⟨_,h⟩|⟨k,b,d,e,l,m,f,j⟩
 ·cases h
 cases e
 refine .inr ⟨g,o,c-n,by rw[G_],by rw[G_];omega,⟨by omega,by rw[G_];omega⟩,f,λi hi=>?_⟩;rw[G_] at hi;rcases ho with rfl|ho
 ·rw[List.getElem_drop,J_];exact j (n+i) (by omega)
 omega
theorem wj (h:W.ownsRow base t 6 v n xs)(hf:n=0->v=Zn)(h1:0<n->∃x,xs[0]? =some (I x)){g:Nat}{s:ByteArray}(hc:W.cell? ⟨g,0,none⟩=some (.string s)):v.ownBlock≠some g:=λe=>by
 by_cases h0:n=0
 ·rw[hf h0] at e;simp[Value.ownBlock] at e
 obtain⟨x,f⟩:=h1 (by omega)
 rcases h.2 with ⟨rfl,_⟩|⟨a,b,c,rfl,_⟩
 ·simp[Value.ownBlock] at e
 have d:a=g:=by simpa[Value.ownBlock] using e
 subst d
 have:=h.cells (g:=a) rfl 0 _ f
 rw[bE] at this
 rw[this] at hc
 cases hc
theorem gK.first (h:gK W B rs css)(h0:0<rs.length):∃x,css.flatten[0]? =some (I x):=by
 have b:=h.len;cases css with
 |nil=>simp at b;omega
 |cons cs css=>
  obtain⟨l,c,f,d,i,p,q,e,_⟩:=h.each 0 h0 (by simp);have a:cs=_:=e;subst a;exact⟨_,rfl⟩
theorem xV (w:World)(cs:List Value)(t:TypeId):∀j u,cs[j]? =some u->(w.alloc (.cells cs.toArray t)).cell? ((⟨w.heap.size,0,none⟩:Addr).add j)=some u:=by
 intro j u h;rw[bE,O_];have a:Bx (w.alloc (.cells cs.toArray t)) w.heap.size t cs.toArray:=Bx.new w _ t;exact a.cell (by simpa using h)
theorem wi (w:World)(o:Obj)(cs:List Value)(t:TypeId):∀j u,cs[j]? =some u->((w.alloc o).alloc (.cells cs.toArray t)).cell? ((⟨w.heap.size+1,0,none⟩:Addr).add j)=some u:=by
 intro j u h;have:=xV (w.alloc o) cs t j u h;simpa using this
theorem ra {o:Nat}(h:w.cell? ⟨b,o,none⟩=some v)(o1 o2:Obj):((w.alloc o1).alloc o2).cell? ⟨b,o,none⟩=some v:=ae (af _ _) (ae (af _ _) h)
theorem j8 (hg:w.grownBy w' row){g:Nat}{s:ByteArray}(hc:w.cell? ⟨g,0,none⟩=some (.string s))(hne:row≠some g):w'.heap[g]? =w.heap[g]? :=hg.block g (aP hc) (λe=>hne e.symm)
theorem oC (h:Bl w wr)(hg:wr.grownBy w2 (some b))(hb:w.heap.size<=b):Bl w w2:=ch h hg hb
theorem Ci (h:k<1099511627776):(k+1)*64<=140737488355328:=e_ (u_ 64 (show k+1<=1099511627776 by omega)) (by decide)
theorem wh (rs:List Rc)(T L:List UInt8)(v:Value)(w:World)(hok:∀r∈rs,r.ok)(hT:mR T)(hL:L=bq rs++T)(hV:BV w v L)(hn:rs.length<1099511627776):
 c_ 74 #[v] w λe w'=>(∃rv css,e=.returned (.tuple #[rv,I (bq rs).length])/\gK w' w.heap.size rs css/\w'.ownsRow w.heap.size 140 6 rv rs.length css.flatten)/\Bl w w':=by
 obtain⟨i0,hi,am,an,ao⟩:=info_parts xW;obtain⟨a,c,rfl,aq,ar,au⟩:=hV.len;have HV:=hd hV;have HL:=hd hL;clear hV hL;go_enter func74,ntmps74;go_wp2_with fail;go_loopw [2,3,4,5,6] (λrv sv _ _ _ wr=>∃(k:Nat) (css:List (List Value)),k<=rs.length/\sv=I (bq (rs.take k)).length/\Hid (k=0->rv=Zn)/\Hid (gK wr w.heap.size (rs.take k) css)/\Hid (wr.ownsRow w.heap.size 140 6 rv k css.flatten)/\Hid (Bl w wr)) (λ_ sv _ _ _ _=>(bq rs).length+1-(intOf sv).toNat)
 case atStart=>exact⟨0,[],k_ _,rfl,λ_=>rfl,gK.nil _ _,B_ _ _ _ _,n_ _ _⟩
 obtain⟨k,css,hk,rfl,Z,hR,b,Q⟩:=hrel;have J:(bq (rs.take k)).length<=L.length:=by rw[HL.out];exact j7 rs k T
 have Y:Hid (L.drop (bq (rs.take k)).length=bq (rs.drop k)++T):=by
  show _=_;rw[HL.out];exact oT rs k T
 generalize aa:(bq (rs.take k)).length=n at J Y;have HN:=hd aa
 have N:Hid (BV wr (.slice a L.length c) L):=by
  have h:=HV.out;rcases h with h|⟨g,y,P,M,h2,h3,h4,h5⟩
  ·exact .inl h
  exact .inr ⟨g,y,P,M,h2,h3,h_ h4 Q.out.size,λi hi=>(L_ (w:=w) (Q.out.block g h4)).trans (h5 i hi)⟩
 clear aa;go_upto_region 1 with fail;go_cut [4] from 7 to 28 (λs4 wz=>s4=Px wr.heap.size/\∃d,wz=wr.alloc (.cells #[d,.bool false] 205)/\Hid (BV wr d (L.drop n)))
 case first=>
  rcases N.out with ⟨rfl,h'⟩|⟨g,y,P,M,h2,h3,h4,h5⟩
  ·simp only[List.length_nil,Value.slice.injEq,true_and] at h';obtain⟨rfl,rfl⟩:=h';obtain rfl:n=0:=by simpa using J
   go_wp2_with fail;go_meet
   case rel=>exact⟨rfl,_,rfl,.inl ⟨rfl,rfl⟩⟩
  cases M
  have K:Hid (∀o,(o=y+n\/c-n=0)->BV wr (s_ g o (L.length-n) (c-n)) (L.drop n)):=λo ho=>BV.tail N.out J g y rfl ho;clear h4 h5;by_cases hcn:c=n
  ·subst hcn;go_wp2_with fail;go_meet;have af:L.length-c=0:=by omega
   have:=K.out y (.inr (Nat.sub_self c));rw[af,Nat.sub_self] at this;exact⟨rfl,_,rfl,this⟩
  go_wp2_with fail;go_meet
  case rel=>exact⟨rfl,_,rfl,K.out _ (.inl rfl)⟩
 obtain⟨rfl,d,rfl,z⟩:=hcut;rw[Y.out] at z;have C1:Cur (wr.alloc (.cells #[d,.bool false] 205)) wr.heap.size d false:=Bx.new wr #[d,.bool false] 205;have V1:BV (wr.alloc (.cells #[d,.bool false] 205)) d (bq (rs.drop k)++T):=z.out.grown (v_ _ _ _);have H:=Q.out.size;by_cases hlk:k<rs.length
 ·have F:=hok _ (i_ hlk)
  have W:bq (rs.drop k)++T=kJ rs[k].kind rs[k].body++(bq (rs.drop (k+1))++T):=by
   rw[M_ hlk,bq,F_,Rc.bytes_eq,A_];rfl
  have V:=pL wr.heap.size d rs[k].kind rs[k].body (bq (rs.drop (k+1))++T) _ (iF rs[k]) _ C1 V1 (Rc.kind_lt F) (Rc.body_lt F) W (xO rs[k] F);have al:Hid (bq (rs.take (k+1))=bq (rs.take k)++rs[k].bytes/\rs.take (k+1)=rs.take k++[rs[k]]):=⟨kO hlk,g_ hlk⟩
  have X:Hid (L.length-(bq (rs.drop (k+1))++T).length=(bq (rs.take (k+1))).length/\(bq (rs.drop (k+1))++T).length<=L.length/\n<(bq (rs.take (k+1))).length/\(bq (rs.take (k+1))).length<=(bq rs).length):=by
   have a1:=j7 rs (k+1) T;have a2:=congrArg List.length (oT rs (k+1) T);have a3:=j7 rs (k+1) [];rw[G_] at a2;rw[<-HL.out] at a1 a2;rw[T_] at a3
   have a4:(bq (rs.take (k+1))).length=n+(9+rs[k].body.length):=by
    rw[kO hlk,a_,HN.out,Rc.bytes_eq,eG]
   refine⟨?_,?_,?_,a3⟩
   ·omega
   ·omega
   omega
  clear C1 V1 z W;go_wp2_with fail;go_fit V;rintro e t ⟨⟨l,ea,en,ec,i,p,q,B,rfl,ad,hQ⟩,⟨v2,R,U,ag⟩,u⟩;obtain⟨a2,c2,rfl,_,_,_⟩:=U.len;generalize hD:bq (rs.drop (k+1))++T=D at *;generalize av:rs[k]=r at *;have f:Hid (wr.grownBy t (some wr.heap.size)):=(v_ wr _ _).trans u
  have ae:w.heap.size<=B:=by
   have e1:(wr.alloc (.cells #[d,.bool false] 205)).heap.size=wr.heap.size+1:=by simp
   omega
  have Q2:Hid (iF r w.heap.size t l (.slice ea en ec) i p q):=iF.low hQ ae
  have R2:Hid (t.ownsRow w.heap.size 140 6 u2 k css.flatten):=t_ b.out f.out (by
   cases hb:u2.ownBlock with
   |none=>exact .inl rfl
   |some g=>exact .inr (λe=>by
    have:=(f_ b.out g hb).2
    cases e;omega))
  have N2:Hid (u2.ownBlock≠some wr.heap.size):=λe=>by
   have:=(f_ b.out _ e).2;omega
  have ac:=R.c0;have q1:Hid (k+1<=maxLen):=by show _<=_;unfold maxLen;omega
  have q2:Hid ((k+1)*64<=140737488355328):=Ci (by omega)
  have q3:Hid (∀o1 o2,w.heap.size<=((t.alloc o1).alloc o2).heap.size):=λo1 o2=>by
   have:=f.out.size;show w.heap.size<=_;simp;omega
  have ak:(L.length:Int)-(D.length:Int)=((bq (rs.take (k+1))).length:Int):=by
   have:=X.out;omega
  clear V R U ag u hQ ad F hok;go_wp2_with (at_builtin;refine wpList_append_own_at _ rfl (.tmp 19) (.tmp 21) _ rfl w.heap.size _ i0 _ 6 64 underlying141 hi am an ao rfl (by decide) u2 _ _ rfl (p_ (p_ R2.out _) _) ⟨t.heap.size+1,0,none⟩ 1 1 [I r.kind,I l,.slice ea en ec,I i,.bool p,I q] rfl rfl (wi t _ _ _) (by simp[Value.oneCell']) q1.out q2.out (q3.out _ _) ?_;intro v3 w3 hown3 hg3 hnil3 hloc3;have ap:w3.cell? ⟨wr.heap.size,0,none⟩=some (.slice a2 D.length c2):=hg3.cell (ra ac _ _) (λe=>N2.out e.symm);have O3:Hid _:=hown3;have G3:Hid _:=hg3;clear hown3 hg3 hnil3 hloc3);have ah:(rs.take k).length=k:=by rw[l_,U_ hk]
  have C:0<k->∃x,css.flatten[0]? =some (I x):=λh=>gK.first hR.out (by rw[ah];exact h)
  have G:∀g s,t.cell? ⟨g,0,none⟩=some (.string s)->w3.heap[g]? =t.heap[g]? :=λg s hc=>by
   have E:=aP hc;have ai:=wj R2.out Z.out C hc;rw[World.grownBy.block G3.out g (by simp;omega) (λe=>ai e.symm),Below.heap_alloc _ _ _ (by simp;omega),Below.heap_alloc _ _ _ E]
  have ab:t.heap.size<=w3.heap.size:=e_ (by simp;omega) (World.grownBy.size G3.out);refine⟨⟨k+1,css++[[I r.kind,I l,.slice ea en ec,I i,.bool p,I q]],hlk,rfl,λh=>by omega,?_,?_,?_⟩,by have:=X.out;simp[intOf];omega⟩
  ·show gK w3 w.heap.size (rs.take (k+1)) _;rw[al.out.2];refine gK.snoc (gK.kept hR.out (e_ f.out.size ab) λg s hc=>?_) ⟨l,ea,en,ec,i,p,q,rfl,iF.kept Q2.out ab G⟩;have E:=aP hc;have e2:=j8 f.out hc (λe=>by cases e;omega);rw[G g s ((L_ (w:=wr) e2).trans hc),e2]
  ·show w3.ownsRow _ _ _ _ _ _;rw[List.flatten_append,List.flatten_singleton];exact O3.out
  have A:Bl w t:=ch Q.out f.out H;exact((A.alloc A.size _).alloc (by have:=A.size;simp;omega) _).grown G3.out (by have:=A.size;simp;omega) (λj hj=>(f_ R2.out j hj).1)
 obtain rfl:k=rs.length:=by omega
 obtain⟨r0,m,aj,hm,S⟩:=hT
 have O:BV (wr.alloc (.cells #[d,.bool false] 205)) d T:=by
  have:=V1;rw[List.drop_length] at this;simpa[bq] using this
 have V:=qW wr.heap.size d r0.kind m r0.body T _ C1 O (Rc.body_lt aj) hm S;clear C1 V1 O z S;go_wp2_with fail;go_fit V;rintro e t ⟨rfl,u⟩;have f:Hid (wr.grownBy t (some wr.heap.size)):=(v_ wr _ _).trans u;clear V u;unfold eD;go_wp2_with fail;refine bodyPost_ret (v:=.tuple #[u2,I n]) (by simp[results,results74,go_sem]) rfl ⟨⟨u2,css,?_,?_,?_⟩,?_⟩
 ·rw[<-HN.out,W_]
 ·have M:=hR.out;rw[W_] at M;refine M.kept (e_ f.out.size (by simp)) λg s hc=>?_;have E:=aP hc;rw[Below.heap_alloc _ _ _ (h_ E f.out.size)];exact j8 f.out hc (λe=>by cases e;omega)
 ·exact p_ (t_ b.out f.out (by
   cases hb:u2.ownBlock with
   |none=>exact .inl rfl
   |some g=>exact .inr (λe=>by
    have:=(f_ b.out g hb).2
    cases e;omega))) _
 exact(oC Q.out f.out H).alloc (e_ H f.out.size) _
section
open Go.Sort
def iG (c:Cfg)(id lane:Int)(es:List Ed):Prop:=1<=id/\id<=1000000/\0<=lane/\lane<c.lanes/\bT es
theorem mQ (l:List Ed)(v:Value)(w:World)(hl:aH w v l)(hc:q8 v)(hn:l.length<8796093022208)(r:Bool)(hr:r=true↔bT l):
 c_ 236 #[v] w λe w'=>e=.returned (.bool r)/\Bl w w':=by
 refine(mM l v w hl hc hn).mono ?_;rintro e w' ⟨⟨b,rfl,a⟩,c⟩
 have:b=r:=by
  have:=a.trans hr.symm;cases b<;>cases r<;>simp_all
 exact⟨by rw[this],c⟩
theorem Az (yb:Nat)(c:Cfg)(cs:Array Value)(kind id lane num:Int)(pass:Bool)(es:List Ed)(ea:Option Addr)(en ec:Nat)(w:World)(hB:Bx w yb 201 cs)(h0:cs[0]? =some (I c.lanes))(hE:aH w (.slice ea en ec) es)(hc:q8 (.slice ea en ec))(hn:es.length<8796093022208):
 c_ 194 #[Px yb,.agg #[I kind,I lane,.slice ea en ec,I id,.bool pass,I num]] w λe w'=>cD e (iG c id lane es)/\Bl w w':=by
 have k:Bl w (w.alloc (.cells #[I kind,I lane,.slice ea en ec,I id,.bool pass,I num] 140)):=af _ _;have l:Bx (w.alloc (.cells #[I kind,I lane,.slice ea en ec,I id,.bool pass,I num] 140)) w.heap.size 140 #[I kind,I lane,.slice ea en ec,I id,.bool pass,I num]:=Bx.new _ _ _;have o:=l.cell (i:=1) rfl;have s:=l.cell (i:=2) rfl;have t:=l.cell (i:=3) rfl;have u:(w.alloc (.cells #[I kind,I lane,.slice ea en ec,I id,.bool pass,I num] 140)).cell? ⟨yb,0,none⟩=some (I c.lanes):=(hB.mk _).cell h0;have g:Hid (iG c id lane es↔(1<=id/\id<=1000000/\0<=lane/\lane<c.lanes/\bT es)):=Iff.rfl
 obtain⟨r,m⟩:∃r:Bool,r=true↔bT es:=by
  by_cases h:bT es
  ·exact⟨true,by simp[h]⟩
  exact⟨false,by simp[h]⟩
 have f:=λd os=>Calls.regrown_of (d:=d) (os:=os) (w:=w.alloc (.cells #[I kind,I lane,.slice ea en ec,I id,.bool pass,I num] 140)) (mQ es (.slice ea en ec) _ ((hE.later (af _ _)).later (below_regrown _ d os)) hc hn r m);have v:=hd m;generalize iG c id lane es=p at g ⊢;clear hB hE l m;go_enter func194,ntmps194;go_upto_region 1 with fail;generalize w.alloc (.cells #[I kind,I lane,.slice ea en ec,I id,.bool pass,I num] 140)=n at *;have j:=hd k;have z:=cell_regrown o;have A:=cell_regrown s;have B:=cell_regrown t;have y:=cell_regrown u;clear k o s t u;have a:Hid (∀(b:Bool) (q:Regrown),(b=true↔p)->cD (.returned (.bool b)) p/\Bl w (grow (redrawn n q.d) q.os)):=λb q h=>⟨⟨b,rfl,h⟩,j.out.trans ((below_regrown n q.d q.os).mono j.out.size)⟩;have no:Hid (¬p->(false=true↔p)):=λh=>⟨λx=>Bool.noConfusion x,λx=>absurd x h⟩;by_cases g1:1<=id
 ·by_cases g2:id<=1000000
  ·by_cases g3:0<=lane
   ·by_cases g4:lane<(c.lanes:Int)
    ·have F:=hd (v.out.trans ⟨λh=>g.out.2 ⟨g1,g2,g3,g4,h⟩,λh=>(g.out.1 h).2.2.2.2⟩);refine wp_region_quiet_below (by kernel_rfl) (by kernel_rfl) ?_;repeat (first|go_big_quiet_step (exact f _ _)|quiet_step (exact f _ _))
     refine wpQuiet_nil ?_;rintro _ ⟨q,rfl⟩;go_wp2_with fail;go_ret;exact a.out r q F.out
    have F:=hd (no.out λh=>g4 (g.out.1 h).2.2.2.1);refine wp_region_quiet_below (by kernel_rfl) (by kernel_rfl) ?_;repeat (first|go_big_quiet_step (exact f _ _)|quiet_step (exact f _ _))
    refine wpQuiet_nil ?_;rintro _ ⟨q,rfl⟩;go_wp2_with fail;go_ret;exact a.out false q F.out
   have F:=hd (no.out λh=>g3 (g.out.1 h).2.2.1);refine wp_region_quiet_below (by kernel_rfl) (by kernel_rfl) ?_;repeat (first|go_big_quiet_step (exact f _ _)|quiet_step (exact f _ _))
   refine wpQuiet_nil ?_;rintro _ ⟨q,rfl⟩;go_wp2_with fail;go_ret;exact a.out false q F.out
  have F:=hd (no.out λh=>g2 (g.out.1 h).2.1);refine wp_region_quiet_below (by kernel_rfl) (by kernel_rfl) ?_;repeat (first|go_big_quiet_step (exact f _ _)|quiet_step (exact f _ _))
  refine wpQuiet_nil ?_;rintro _ ⟨q,rfl⟩;go_wp2_with fail;go_ret;exact a.out false q F.out
 have F:=hd (no.out λh=>g1 (g.out.1 h).1);refine wp_region_quiet_below (by kernel_rfl) (by kernel_rfl) ?_;repeat (first|go_big_quiet_step (exact f _ _)|quiet_step (exact f _ _))
 refine wpQuiet_nil ?_;rintro _ ⟨q,rfl⟩;go_wp2_with fail;go_ret;exact a.out false q F.out
end
end
section
variable{c:Cfg}{now:Nat}
structure Bs where
 sg:Nat->Sm
 g:ByteArray->ByteArray
 b:Nat
 r:Nat
def Bs.put (t:Bs)(c:Cfg)(now p:Nat):Sm:=
 if (t.sg p).by_=0/\(t.sg p).job.isNone=true then {t.sg p with job:=some ⟨t.b+1,now+c.deadline,(aB t.g (t.sg p).l).1⟩} else t.sg p
def Bs.step (c:Cfg)(now:Nat)(t:Bs)(p:Nat):Bs:=
 ⟨λk=>if k=p then t.put c now p else t.sg k,(aB t.g (t.sg p).l).1,if (t.sg p).by_=0/\(t.sg p).job.isNone=true then t.b+1 else t.b,t.r-1⟩
def Bs.go (c:Cfg)(t:Bs)(p:Nat):Prop:=t.r≠0/\¬(aB t.g (t.sg p).l).2<(t.sg p).l.length/\¬c.retries<(t.sg p).fails
def Bs.all (c:Cfg)(now:Nat)(t:Bs)(l:List Nat):Bs:=l.foldl (Bs.step c now) t
def Bs.goes (c:Cfg)(now:Nat):Bs->List Nat->Prop
 |_,[]=>True
 |t,p::l=>t.go c p/\Bs.goes c now (t.step c now p) l
theorem Bs.all_snoc (c:Cfg)(now:Nat)(t:Bs)(l:List Nat)(p:Nat):t.all c now (l++[p])=(t.all c now l).step c now p:=by simp[Bs.all]
theorem Bs.goes_snoc:∀{t:Bs} {l:List Nat}{p:Nat},t.goes c now l->(t.all c now l).go c p->t.goes c now (l++[p])
 |_,[],_,_,h=>⟨h,trivial⟩
 |_,_::_,_,h,h'=>⟨h.1,Bs.goes_snoc h.2 h'⟩
theorem Bs.all_other {c:Cfg}{now:Nat}:∀{l:List Nat} {t:Bs} {p:Nat},p∉l->(t.all c now l).sg p=t.sg p
 |[],_,_,_=>rfl
 |q::l,t,p,h=>by
  rw[R_,not_or] at h
  have:=Bs.all_other (c:=c) (now:=now) (t:=t.step c now q) h.2
  show ((t.step c now q).all c now l).sg p=_
  rw[this]
  simp[Bs.step,h.1]
theorem ng:∀(m rest:List Nat) (t:Bs),(m++rest).Nodup->t.goes c now m->(rest=[]\/∃p l,rest=p::l/\¬(t.all c now m).go c p)->
 bL c now t.r ((m++rest).map t.sg) t.g t.b=((m++rest).map (t.all c now m).sg,(t.all c now m).b)
 |[],rest,t,_,_,hr=>by
  rcases hr with rfl|⟨p,l,rfl,h⟩
  ·show bL c now t.r [] t.g t.b=([],t.b)
   cases t.r with
   |zero=>rw[bL]
   |succ r=>rw[bL]
  show bL c now t.r (t.sg p::l.map t.sg) t.g t.b=(t.sg p::l.map t.sg,t.b)
  have h':¬t.go c p:=h
  cases hr:t.r with
  |zero=>rw[bL]
  |succ r=>
   rw[bL,if_pos]
   by_cases h1:(aB t.g (t.sg p).l).2<(t.sg p).l.length
   ·exact .inl h1
   by_cases h2:c.retries<(t.sg p).fails
   ·exact .inr h2
   exact absurd ⟨by omega,h1,h2⟩ h'
 |p::m,rest,t,hn,hg,hr=>by
  rw[List.cons_append,List.nodup_cons] at hn
  obtain⟨⟨s,u,v⟩,j⟩:=hg
  have d:=ng m rest (t.step c now p) hn.2 j hr
  obtain⟨r,a⟩:∃r,t.r=r+1:=⟨t.r-1,by omega⟩
  have n:(m++rest).map (t.step c now p).sg=(m++rest).map t.sg:=List.map_congr_left λk hk=>by
   have:k≠p:=λe=>hn.1 (e▸hk)
   simp[Bs.step,this]
  have o:(t.step c now p).r=r:=by simp[Bs.step,a]
  have q:((t.step c now p).all c now m).sg p=t.put c now p:=by
   rw[Bs.all_other λe=>hn.1 (List.mem_append_left _ e)];simp[Bs.step]
  rw[n,o] at d;show bL c now t.r (t.sg p::(m++rest).map t.sg) t.g t.b=(((t.step c now p).all c now m).sg p::(m++rest).map ((t.step c now p).all c now m).sg,((t.step c now p).all c now m).b);rw[q,a,bL,if_neg (by omega)];unfold Bs.put;by_cases hb:(t.sg p).by_=0/\(t.sg p).job.isNone=true
  ·have f:(t.step c now p).b=t.b+1:=if_pos hb;have i:(t.step c now p).g=(aB t.g (t.sg p).l).1:=rfl;rw[f,i] at d;rw[if_pos hb,if_pos hb,d]
  have f:(t.step c now p).b=t.b:=if_neg hb;have i:(t.step c now p).g=(aB t.g (t.sg p).l).1:=rfl;rw[f,i] at d;rw[if_neg hb,if_neg hb,d]
section
open Go.Maps Go.Sort
variable{ids:List Nat}{n sb:Nat}{w w':World}
theorem lF (h:Below n w w'):Below n w w'.drew:=⟨h.os,h.tape,h.output,h.size,h.block⟩
def dc (c:Cfg)(s:Ts)(id lane:Int)(es:List Ed)(k:Int):Prop:=
 (¬iG c id lane es/\k=2)\/(iG c id lane es/\id.toNat∈s.ids/\k=3)\/(iG c id lane es/\id.toNat∉s.ids/\c.queue<=s.queue.length/\k=4)\/(iG c id lane es/\id.toNat∉s.ids/\s.queue.length<c.queue/\k=0)
theorem dR.look (h:dR w sb ids){n:Nat}(hn:n<9223372036854775808):
 (Instr.lookup 194 (.map (some sb)) (I n) true).run prog w=.ok (.tuple #[.agg #[],.bool (ids.contains n)]) w:=by
 obtain⟨D,b,e,c⟩:=h;obtain⟨v,f,a,d⟩:=b.look_ok Cb tf (Dn w) (zd:=.agg []) (zp:=[]) unitElem_mk (Dm hn);obtain⟨rfl,_⟩:=unitElem_inv d;rw[<-c n];exact a
theorem pZ (S:Nat->Prop)(yb mb n0:Nat)(c:Cfg)(s:Ts)(kind id lane num:Int)(pass:Bool)(es:List Ed)(ea:Option Addr)(en ec:Nat)(w:World)(hY:aJ w S yb mb n0 c s)(hE:aH w (.slice ea en ec) es)(hc:q8 (.slice ea en ec))(hn:es.length<8796093022208)(hq:s.queue.length<=16):
 c_ 157 #[Px yb,.agg #[I kind,I lane,.slice ea en ec,I id,.bool pass,I num]] w λe w'=>(∃k:Int,e=.returned (I k)/\dc c s id lane es k)/\Bl w w':=by
 obtain⟨q,y,qv,ov,xt,h,hx⟩:=hY;have M:=Az yb c _ kind id lane num pass es ea en ec (w.alloc (.cells #[I kind,I lane,.slice ea en ec,I id,.bool pass,I num] 140)) (h.box.mk _) rfl (hE.later (af _ _)) hc hn;have v:=h.qlen;obtain⟨Q,d,rfl⟩:=h.que.row.form;have W:=h.box.c 6 (I c.queue);have X:=h.box.c 9 (.slice Q q.length d);have z:=h.box.c 10 (.map (some y));have T:=h.sub;have g:Hid (∀k,dc c s id lane es k↔((¬iG c id lane es/\k=2)\/(iG c id lane es/\id.toNat∈s.ids/\k=3)\/(iG c id lane es/\id.toNat∉s.ids/\c.queue<=s.queue.length/\k=4)\/(iG c id lane es/\id.toNat∉s.ids/\s.queue.length<c.queue/\k=0))):=λk=>Iff.rfl;have a:Hid (iG c id lane es->1<=id/\id<=1000000):=λh=>⟨h.1,h.2.1⟩;generalize dc c s id lane es=P at g ⊢;generalize iG c id lane es=r at g M a;have u:=hd v;have U:q.length<=16:=by omega
 clear h hx hE v;go_enter func157,ntmps157;go_wp2_with fail;go_fit M;rintro e f ⟨⟨t,rfl,V⟩,j⟩;have x3:f.cell? ⟨w.heap.size,3,none⟩=some (I id):=ae j (by simp);have l:=(af _ _).trans (j.mono (by simp));have m:=hd l;have Y:=ae l W;have Z:=ae l X;have R:=ae l z;have i:=T.later l;have H:=hd V;clear W X z T V l j M;cases t
 ·have F:=hd ((g.out 2).2 (.inl ⟨λx=>Bool.noConfusion (H.out.2 x),rfl⟩));go_wp2_with fail;go_ret;exact⟨⟨2,rfl,F.out⟩,m.out⟩
 have O:=H.out.1 rfl;obtain⟨i1,i2⟩:=a.out O;obtain⟨n,rfl⟩:∃n:Nat,id=n:=⟨id.toNat,by omega⟩;have J:=(show dR f.drew y s.ids from i).look (n:=n) (by omega);have L:=λo=>(show dR (f.alloc o).drew y s.ids from i.later (aw _ _)).look (n:=n) (by omega);have G:Hid r:=O;have B:Hid (n∈s.ids->P 3):=λh=>(g.out 3).2 (.inr (.inl ⟨G.out,by simpa using h,rfl⟩));have C:Hid (n∉s.ids->c.queue<=q.length->P 4):=λh h'=>(g.out 4).2 (.inr (.inr (.inl ⟨G.out,by simpa using h,by rw[<-u.out];exact h',rfl⟩)));have A:Hid (n∉s.ids->q.length<c.queue->P 0):=λh h'=>(g.out 0).2 (.inr (.inr (.inr ⟨G.out,by simpa using h,by rw[<-u.out];exact h',rfl⟩)));clear g O i a H;by_cases hm:n∈s.ids
 ·have b:s.ids.contains n=true:=by simpa using hm
  simp only[b] at J L;have G3:=hd (B.out hm);clear B C A hm b;go_wp2_with fail;go_region_held_law (λw'=>w'.cell? ⟨w.heap.size,3,none⟩=some (I n)/\w'.cell? ⟨yb,10,none⟩=some (.map (some y))) (go_keep) (fail)
  all_goals
   go_wp2_with fail;go_ret;exact⟨⟨3,rfl,G3.out⟩,m.out.trans ((aw _ _).mono m.out.size)⟩
 have b:s.ids.contains n=false:=by simpa using hm
 simp only[b] at J L;have E:=hd (C.out hm);have D:=hd (A.out hm);clear B C A hm b;go_wp2_with fail;go_cut [5,6] from 7 (λ_ t wz=>t=.bool false/\∃o,wz=(f.alloc o).drew)
 case first=>
  go_region_held_law (λw'=>w'.cell? ⟨w.heap.size,3,none⟩=some (I n)/\w'.cell? ⟨yb,10,none⟩=some (.map (some y))) (go_keep) (fail)
  all_goals
   go_wp2_with fail;go_meet
   case rel=>exact⟨rfl,_,rfl⟩
 obtain⟨rfl,o,rfl⟩:=hcut;have v6:=ae (aw f o) Y;have v9:=ae (aw f o) Z;have p:Hid (Bl w (f.alloc o).drew):=m.out.trans ((aw _ _).mono m.out.size);clear Y Z R J L;generalize (f.alloc o).drew=w2 at *;by_cases hlt:q.length<c.queue
 ·have K:=hd (D.out hlt);have N:¬((c.queue:Int)<=(q.length:Int)):=by omega
  clear E D;go_wp2_with fail;go_region_held_law (λw'=>w'.cell? ⟨yb,6,none⟩=some (I c.queue)/\w'.cell? ⟨yb,9,none⟩=some (.slice Q q.length d)) (go_keep) (fail)
  all_goals
   go_wp2_with fail;go_ret;exact⟨⟨0,rfl,K.out⟩,lF p.out⟩
 have K:=hd (E.out (by omega));have N:((c.queue:Int)<=(q.length:Int)):=by omega
 clear E D;go_wp2_with fail;go_region_held_law (λw'=>w'.cell? ⟨yb,6,none⟩=some (I c.queue)/\w'.cell? ⟨yb,9,none⟩=some (.slice Q q.length d)) (go_keep) (fail)
 all_goals
  go_wp2_with fail;go_ret;exact⟨⟨4,rfl,K.out⟩,lF p.out⟩
end
variable{S:Nat->Prop}{o:Obj}{w w':World}
theorem ai.from_new (h:ai (w.alloc o) w' S):ai w w' S:=(ai.of_below (S:=S) (af w o)).trans h λ_ hk=>.inl hk
theorem aE.from_new {S:Nat->Prop}{w:World}{o:Obj}:∀k,aE S (w.alloc o) k->aE S w k:=λk h=>by
  rcases h with h|h
  · exact .inl h
  · exact .inr (by have:(w.alloc o).heap.size=w.heap.size+1:=by simp
                   omega)
theorem Dr (S:Nat->Prop)(yb mb n0 id lane num:Nat)(pass:Bool)(b eo ec:Nat)(es:List Ed)(c:Cfg)(s:Ts)(w:World)(hY:aJ w S yb mb n0 c s)(hn:s.queue.length<=16)(hsm:iA es)(hid:id<=1000000)(hnew:id∉s.ids)(hi:s.ids.length<1048576000)(hlt:b<w.heap.size)(h0:∀i (h:i<es.length),w.cell? ⟨b,eo+i*3,none⟩=some (.string es[i].1))(h1:∀i (h:i<es.length),w.cell? ⟨b,eo+i*3+1,none⟩=some (.string es[i].2.1))(h2:∀i (h:i<es.length),w.cell? ⟨b,eo+i*3+2,none⟩=some (.string es[i].2.2)):
 c_ 76 #[Px yb,.agg (pX 1 lane (some ⟨b,eo,none⟩) es.length ec id pass num)] w λe w'=>e=.returned (.tuple #[])/\aJ w' (aE S w) yb mb n0 c {s with ids:=s.ids++[id],queue:=s.queue++[⟨id,lane,0,s.ids.length,es⟩]}/\ai w w' S:=by
 have f:=Ay S yb mb n0 1 id lane num pass b eo ec es c s (w.alloc (.cells (pX 1 lane (some ⟨b,eo,none⟩) es.length ec id pass num) 140)) (hY.later (af _ _)) hn hsm hid hnew hi (by simp;omega) (λi h=>ae (af _ _) (h0 i h)) (λi h=>ae (af _ _) (h1 i h)) (λi h=>ae (af _ _) (h2 i h));have g:=aE.not hY.nm.1 hY.nm.2;clear hY h0 h1 h2;unfold pX at f ⊢;go_enter func76,ntmps76;go_wp2_with fail;go_fit f;rintro e l ⟨rfl,d,a⟩;have k:Hid _:=d;have j:Hid _:=a;clear d a f;go_wp2_with fail;exact be_ ⟨rfl,aJ.mono k.out aE.from_new g,ai.from_new j.out⟩
theorem Dt (S:Nat->Prop)(yb mb n0 id:Nat)(c:Cfg)(s:Ts)(w:World)(hY:aJ w S yb mb n0 c s)(hn:s.queue.length<=16)(hex:∃x∈s.queue,x.id=id)(ho:s.outs.length<1048576000)(ha:s.acked<=s.outs.length):
 c_ 76 #[Px yb,.agg #[I 2,I 0,Zn,I id,.bool false,I 0]] w λe w'=>e=.returned (.tuple #[])/\aJ w' (aE S w) yb mb n0 c {s with queue:=s.queue.filter λc=>c.id !=id,outs:=s.outs++[(id,4)]}/\ai w w' S:=by
 have f:=v7 S yb mb n0 id c s (w.alloc (.cells #[I 2,I 0,Zn,I id,.bool false,I 0] 140)) (hY.later (af _ _)) hn hex ho ha;have d:=aE.not hY.nm.1 hY.nm.2;clear hY hex;go_enter func76,ntmps76;go_wp2_with fail;go_fit f;rintro e i ⟨rfl,b,a⟩;have h:Hid _:=b;have g:Hid _:=a;clear b a f;go_wp2_with fail;exact be_ ⟨rfl,aJ.mono h.out aE.from_new d,ai.from_new g.out⟩
theorem Ds (S:Nat->Prop)(yb mb n0:Nat)(n:Int)(c:Cfg)(s:Ts)(w:World)(hY:aJ w S yb mb n0 c s)(ha:s.acked<s.outs.length):
 c_ 76 #[Px yb,.agg #[I 6,I 0,Zn,I 0,.bool false,I n]] w λe w'=>e=.returned (.tuple #[])/\aJ w' (aE S w) yb mb n0 c {s with acked:=s.acked+1}/\ai w w' S:=by
 obtain⟨q,H,G,F,K,h,r⟩:=hY;have B:=hd r;have C:=hd h;have hd:=M_ ha;have i:=h.outs.row;rw[hd,oc] at i;obtain⟨m,o⟩:∃m,s.outs.length-s.acked=m+1:=⟨s.outs.length-s.acked-1,by omega⟩;rw[o] at i;have j:=h.outs.row.ne h.box (by decide);have l:=Au yb 15 m 201 F _ _ _ _ _ (w.alloc (.cells #[I 6,I 0,Zn,I 0,.bool false,I n] 140)) (h.box.mk _) rfl (i.mk _) j;have D:Hid (s.outs.length-(s.acked+1)=m):=by show _=_;omega
 have E:=h.box.lt;clear h r i hd o;go_enter func76,ntmps76;go_wp2_with fail;go_fit l;rintro e u ⟨rfl,t,a,d,f,b⟩;have x:Hid _:=a;have z:Hid _:=d;have A:Hid _:=f;have y:Hid _:=b;clear a d f b l;go_wp2_with fail;have h:=C.out
 have O:ak w u S [201,99]:=ak.mk (ai.from_new y.out) λk hk e=>by
  rcases e with rfl|e
  ·exact⟨h.fy,_,by simp,h.box.ty⟩
  exact⟨h.outs.own k e,_,by simp,h.outs.row.ty e⟩
 obtain⟨J,L,p⟩:=h.rest;refine be_ ⟨rfl,⟨q,H,G,t,K,⟨h.qs,?_,h.que.keptT O.k (aE.old w) (by decide) (by decide),O.sub h.sub (by decide),⟨?_,λg hg=>?_⟩,.inl h.fy,.inl h.fs,⟨J,L,p.keptT O.k (aE.old w) h.np rfl rfl rfl (b_ _) (by unfold jA dO;decide) (O.map p.map (by decide))⟩,h.nt⟩,B.out⟩,O.only⟩
 ·have:=x.out;rwa [Dp] at this
 ·show Sl u _ 3 t (s.outs.length-(s.acked+1)) (oc (s.acked+1) (s.outs.drop (s.acked+1)));rw[D.out];exact z.out
 rw[A.out] at hg;exact .inl (h.outs.own g hg)
theorem AD (S:Nat->Prop)(yb mb n0:Nat)(c:Cfg)(s:Ts)(id lane:Int)(es:List Ed)(ea:Option Addr)(en ec:Nat)(w:World)(hY:aJ w S yb mb n0 c s)(hE:aH w (.slice ea en ec) es)(hc:q8 (.slice ea en ec))(hn:es.length<8796093022208)(hq:s.queue.length<=16):
 c_ 110 #[Px yb,.agg #[I 1,I lane,.slice ea en ec,I id,.bool false,I 0]] w λe w'=>(∃k:Int,e=.returned (I k)/\dc c s id lane es k)/\Bl w w':=by
 have b:=pZ S yb mb n0 c s 1 id lane 0 false es ea en ec (w.alloc (.cells #[I 1,I lane,.slice ea en ec,I id,.bool false,I 0] 140)) (hY.later (af _ _)) (hE.later (af _ _)) hc hn hq;generalize dc c s id lane es=P at b ⊢;clear hY hE;go_enter func110,ntmps110;go_wp2_with fail;go_fit b;rintro e h ⟨⟨k,rfl,d⟩,a⟩;have g:=hd d;have f:=hd ((af _ _).trans (a.mono (by simp)));clear d a b;go_wp2_with fail;go_ret;exact⟨⟨k,rfl,g.out⟩,f.out⟩
variable{P:Program}
theorem fB (w:World){ops:Array Oper}{rest:List Oper}{o:Oper}{a:Act}{Q:Exit->Act->World->Prop}(hgd:o.guard=none)(s x:Operand)(t:TypeId)(ho:o.op=.call {callee:=.builtin .append,args:=#[s,x],argTypes:=#[t,t]})(e:TypeId)(i:TypeInfo)(z:Value)(ht:P.underlying t=some (.slice e))(hi:P.info? e=some i)(hz:i.zero=some z)(hsize:i.size=1)(hby:i.bytes=1)(hzs:z.cells.size=1)(v:Value)(n:Nat)(xs:List Value)(hs:a.eval s=v)(hown:Sl w e 1 v n xs)(u:Value)(m:Nat)(aQ:List Value)(hx:a.eval x=u)(hsrc:Sl w e 1 u m aQ)(h1:∀y∈aQ,y.oneCell'=true)(h63:n+m<=maxLen)(hbytes:(n+m)*1<=140737488355328)(h:∀v' w',Sl w' e 1 v' (n+m) (xs++aQ)->w.grownBy w' v.ownBlock->(v'.ownBlock=v.ownBlock\/∃g,v'.ownBlock=some g/\w.heap.size<=g)->wpList P ops Q rest (a.put o.dst v') w'):wpList P ops Q (o::rest) a w:=by
 rcases Nat.eq_zero_or_pos m with rfl|A
 ·obtain rfl:aQ=[]:=I_ (by simpa using hsrc.1);obtain⟨k,C,rfl⟩:=hsrc.form;obtain⟨p,q,rfl⟩:=hown.form;refine wpList_plain hgd λK hK=>?_;have l:∀a,Sem.run P (loadCells a 0) w=.ok #[] w:=λa=>run_loadCells_list (P:=P) w a [] (by simp)
  have B:(Builtin.append_ #[t,t] o.type #[.slice p n q,.slice k 0 C]).run P w=.ok (.slice p n q) w:=by
   rcases hown.2 with ⟨d,D⟩|⟨g,b,c,r,d,E,f,_⟩
   ·cases d
    cases k<;>simp[Builtin.append_,run_underlying ht,sizeOf,typeInfo,hi,Builtin.lenOf,Builtin.firstCells,l]
   cases d
   cases k<;>simp[Builtin.append_,run_underlying ht,sizeOf,typeInfo,hi,Builtin.lenOf,Builtin.firstCells,f,storeCells,l]
  unfold Oper.wp execOp;simp only[ho,resolve,invoke,builtin,Sem.run_bind,Sem.run_pure,Result.andThen_ok,List.map_toArray,C_,List.map_nil,hs,hx,B];exact hK _ _ (h _ w (by simpa using hown) (World.grownBy.refl _ _) (.inl rfl))
 obtain⟨g,b,c,rfl,_⟩:=hsrc.addr A;refine cH w hgd s x t ho e i z 1 1 ht hi hz hsize hby hzs (by decide) v n xs hs hown ⟨g,b,none⟩ m c aQ hx (by simpa using hsrc.1) (λj y hy=>?_) h1 h63 hbytes h
 have:(⟨g,b,none⟩:Addr).add j=⟨g,b+j,none⟩:=by
  unfold Addr.add;by_cases h:j=0
  ·subst h;simp
  simp[h]
 rw[this];exact hsrc.cell hy
def da (c:Cfg)(mb:Nat)(lv up:Value):Array Value:=
 #[I c.lanes,I c.age,I c.batch,I c.window,I c.retries,I c.deadline,I c.queue,.map (some mb),lv,up]
def dA (yb:Nat)(br:Bool)(keep:Int):Array Value:=#[Px yb,.bool br,I keep]
structure BI (w w':World)(xb mb:Nat)(c:Cfg)(lv up:Value)(L:List UInt8)(lv':Value):Prop where
 box:Bx w' xb 135 (da c mb lv' up)
 log:Sl w' 5 1 lv' L.length (bc L)
 blk:lv'.ownBlock=lv.ownBlock\/∃g,lv'.ownBlock=some g/\w.heap.size<=g
 only:ai w w' (λk=>k=xb\/lv.ownBlock=some k)
theorem Cj (xb mb rb yb:Nat)(c:Cfg)(keep:Int)(lv v:Value)(L l:List UInt8)(w:World)(hB:Bx w xb 135 (da c mb lv (Px rb)))(hR:Bx w rb 137 (dA yb false keep))(hL:Sl w 5 1 lv L.length (bc L))(hl:Sl w 5 1 v l.length (bc l))(hn:L.length<1099511627776)(hm:l.length<1099511627776):
 c_ 111 #[Px xb,v] w λe w'=>e=.returned (.tuple #[])/\∃lv',BI w w' xb mb c lv (Px rb) (L++l) lv':=by
 obtain⟨C,A,o,p,q⟩:=info_parts g8;obtain⟨f,j,rfl⟩:=hL.form;obtain⟨F,G,rfl⟩:=hl.form;have H:=hB.c 8 (.slice f L.length j);have I:=hB.c 9 (Px rb);have M:=hR.c 1 (.bool false);have d:=hL.ne hB (by decide);have s:=hd hB;have y:=hd hL;have z:=hd hl;have D:Hid (L.length+l.length<=maxLen):=by show _<=_;unfold maxLen;omega
 have E:Hid ((L.length+l.length)*1<=140737488355328):=by show _<=_;omega
 clear hB hR hL hl;go_enter func111,ntmps111;go_wp2_with (at_builtin;refine fB _ rfl _ _ 114 rfl _ C _ underlying114 A o p q rfl (.slice f L.length j) _ _ rfl y.out (.slice F l.length G) _ _ rfl z.out (sV l) D.out E.out ?_;intro v3 w3 hown3 hg3 hloc3;obtain⟨t,u,rfl⟩:=hown3.form;have a:Hid (Bx w3 xb 135 (da c mb (.slice f L.length j) (Px rb))):=s.out.grown hg3 (λe=>d e.symm);have J:w3.cell? ⟨xb,8,none⟩=some (.slice f L.length j):=a.out.cell (i:=8) rfl;have K:=a.out.fr 8;have n:=hd hown3;have m:=hd hg3;have b:=hd hloc3;clear hown3 hg3 hloc3);have B:=s.out.lt
 have r:(Value.slice t (L.length+l.length) u).ownBlock≠some xb:=by
  rcases b.out with h|⟨g,h,x⟩
  ·rw[h];exact d
  rw[h];intro e;cases e;omega
 refine be_ ⟨rfl,.slice t (L.length+l.length) u,a.out.set 8 _,?_,b.out,?_⟩
 ·rw[a_,eF];exact Sl.grown n.out (ah _ _ _ _) (λg x e=>r (by rw[x];exact e.symm))
 exact(ai.of_grown m.out (S:=λk=>k=xb\/(Value.slice f L.length j).ownBlock=some k) λk h=>.inr h).set (.inl (.inl rfl))
theorem xX (xb mb rb yb:Nat)(c:Cfg)(keep:Int)(lv v:Value)(L l:List UInt8)(w:World)(hB:Bx w xb 135 (da c mb lv (Px rb)))(hR:Bx w rb 137 (dA yb true keep))(hL:Sl w 5 1 lv L.length (bc L))(hl:Sl w 5 1 v l.length (bc l))(hn:L.length<1099511627776)(hm:l.length<1099511627776)(k:Nat)(hk:(k:Int)=max 0 (min keep l.length)):
 c_ 111 #[Px xb,v] w λe w'=>e=.returned (.tuple #[])/\∃lv',BI w w' xb mb c lv (.pointer none) (L++l.take k) lv':=by
 obtain⟨i0,hi,F,G,H⟩:=info_parts g8;obtain⟨a,b,rfl⟩:=hL.form;obtain⟨q,m,rfl⟩:=hl.form;have U:=hB.c 8 (.slice a L.length b);have W:=hB.c 9 (Px rb);have r1:=hR.c 1 (.bool true);have r2:=hR.c 2 (I keep);have f:=hL.ne hB (by decide);have r:=hd hB;have K:=hd hL;have T:=hd hl;have Q:Hid (L.length+l.length<=maxLen):=by show _<=_;unfold maxLen;omega
 have R:Hid ((L.length+l.length)*1<=140737488355328):=by show _<=_;omega
 have Z:=hB.fr 9;have D:k<=l.length:=by omega
 have ac:l.length<=m:=by
  rcases hl.2 with ⟨C,h0⟩|⟨g,ae,X,Y,C,_,aa,_⟩
  ·injection C with _ h2 _;omega
  injection C with _ h2 h3;omega
 have z:Hid (Sl w 5 1 (.slice q k m) k (bc (l.take k))):=by
  have:=hl.cut D;rw[Nat.mul_one] at this;show Sl w 5 1 (.slice q k m) k (bc (l.take k));rw[bc,List.map_take];exact this
 have A:Hid ((l.take k).length=k):=by show _=_;rw[l_];omega
 clear hB hR hL hl;go_enter func111,ntmps111;go_upto_region 1 with fail;go_cut [1] from 2 (λs wz=>s=.slice q k m/\wz=w)
 case first=>
  by_cases h1:keep<=(l.length:Int)
  ·by_cases h2:0<=keep
   ·obtain⟨n,rfl⟩:∃n:Nat,keep=n:=⟨keep.toNat,by omega⟩;obtain rfl:n=k:=by omega
    clear hk;have O:min (n:Int) (l.length:Int)=n:=by omega
    have P:max 0 (n:Int)=n:=by omega
    go_wp2_with fail;go_meet
    case rel=>exact⟨rfl,rfl⟩
   obtain rfl:k=0:=by omega
   clear hk;have O:min keep (l.length:Int)=keep:=by omega
   have P:max 0 keep=0:=by omega
   go_wp2_with fail;go_meet
   case rel=>exact⟨rfl,rfl⟩
  obtain rfl:k=l.length:=by omega
  clear hk;have O:min keep (l.length:Int)=l.length:=by omega
  have P:max 0 (l.length:Int)=l.length:=by omega
  go_wp2_with fail;go_meet
  case rel=>exact⟨rfl,rfl⟩
 obtain⟨rfl,rfl⟩:=hcut;rename World=>w;have Q:Hid (L.length+k<=maxLen):=by show _<=_;unfold maxLen;omega
 have R:Hid ((L.length+k)*1<=140737488355328):=by show _<=_;omega
 have ad:=r.out.lt;have o:Hid (Bx (w.setCell ⟨xb,9,none⟩ (.pointer none)) xb 135 (da c mb (.slice a L.length b) (.pointer none))):=r.out.set 9 _;have u:Hid (Sl (w.setCell ⟨xb,9,none⟩ (.pointer none)) 5 1 (.slice a L.length b) L.length (bc L)):=K.out.grown (ah _ _ _ _) (λg j e=>f (by rw[j];exact e.symm));have E:=z.out.ne r.out (by decide);have B:Hid (Sl (w.setCell ⟨xb,9,none⟩ (.pointer none)) 5 1 (.slice q k m) k (bc (l.take k))):=z.out.grown (ah _ _ _ _) (λg j e=>E (by rw[j];exact e.symm));have y:Hid (ai w (w.setCell ⟨xb,9,none⟩ (.pointer none)) (λk=>k=xb\/(Value.slice a L.length b).ownBlock=some k)):=(ai.refl w _).set (.inl (.inl rfl));have ab:(w.setCell ⟨xb,9,none⟩ (.pointer none)).heap.size=w.heap.size:=by simp
 clear hk r K T z;go_upto_region 3 with fail;generalize w.setCell ⟨xb,9,none⟩ (.pointer none)=wn at *;have V:=o.out.c 8 (.slice a L.length b);clear U W r1 r2 Z;go_wp2_with (at_builtin;refine fB _ rfl _ _ 114 rfl _ i0 _ underlying114 hi F G H rfl (.slice a L.length b) _ _ rfl u.out (.slice q k m) _ _ rfl B.out (sV _) Q.out R.out ?_;intro v3 w3 hown3 hg3 hloc3;obtain⟨M,N,rfl⟩:=hown3.form;have d:Hid (Bx w3 xb 135 (da c mb (.slice a L.length b) (.pointer none))):=o.out.grown hg3 (λe=>f e.symm);have d8:w3.cell? ⟨xb,8,none⟩=some (.slice a L.length b):=d.out.cell (i:=8) rfl;have f8:=d.out.fr 8;have x:=hd hown3;have t:=hd hg3;have p:=hd hloc3;clear hown3 hg3 hloc3)
 have J:(Value.slice M (L.length+k) N).ownBlock≠some xb:=by
  rcases p.out with h|⟨g,h,j⟩
  ·rw[h];exact f
  rw[h];intro e;cases e;omega
 refine be_ ⟨rfl,.slice M (L.length+k) N,d.out.set 8 _,?_,p.out.imp (λh=>h) (λ⟨g,h1,h2⟩=>⟨g,h1,by omega⟩),?_⟩
 ·rw[a_,eF,A.out];exact Sl.grown x.out (ah _ _ _ _) (λg j e=>J (by rw[j];exact e.symm))
 exact(y.out.trans (ai.of_grown t.out (S:=λk=>k=xb\/(Value.slice a L.length b).ownBlock=some k) λk h=>.inr h) λk h=>.inl h).set (.inl (.inl rfl))
variable{br:Bool}{keep:Int}{k mb n0 rb xb yb:Nat}{Y:Nat->Prop}{s:Ts}{t:TypeId}{lv:Value}
structure dB (w:World)(Y:Nat->Prop)(xb mb n0 rb yb:Nat)(c:Cfg)(s:Ts)(L:List UInt8)(br:Bool)(keep:Int)(lv:Value):Prop where
 box:Bx w xb 135 (da c mb lv (Px rb))
 run:Bx w rb 137 (dA yb br keep)
 log:Sl w 5 1 lv L.length (bc L)
 yard:aJ w Y yb mb n0 c s
 nx:¬Y xb
 nr:¬Y rb
 nl:∀g,lv.ownBlock=some g->¬Y g
 yl:∀k,Y k->k<w.heap.size
 fm:cy w mb gI
theorem cy.kept (h:cy w k t)(he:w'.heap[k]? =w.heap[k]?):cy w' k t:=by
 unfold cy at h ⊢;rwa [he]
theorem dB.apart {L:List UInt8}(h:dB w Y xb mb n0 rb yb c s L br keep lv):mb≠xb/\mb≠rb/\lv.ownBlock≠some mb/\¬Y mb:=
 ⟨λe=>absurd (h.fm.one (e▸h.box.ty)) (by decide),λe=>absurd (h.fm.one (e▸h.run.ty)) (by decide),λe=>absurd (h.fm.one (h.log.ty e)) (by decide),h.yard.nm.1⟩
theorem AE (Y:Nat->Prop)(xb mb n0 rb yb:Nat)(c:Cfg)(s:Ts)(L:List UInt8)(br:Bool)(keep:Int)(lv:Value)(kind lane id num:Int)(pass:Bool)(ea:Option Addr)(en ec:Nat)(k:Int)(hk:k≠0)(w:World)(hU:dB w Y xb mb n0 rb yb c s L br keep lv)(hC:∀W,Bl w W->c_ 110 #[Px yb,.agg #[I kind,I lane,.slice ea en ec,I id,.bool pass,I num]] W λe W'=>e=.returned (I k)/\Bl W W'):
 c_ 73 #[Px xb,.agg #[I kind,I lane,.slice ea en ec,I id,.bool pass,I num]] w λe w'=>e=.returned (I k)/\Bl w w':=by
 have g:=hC (w.alloc (.cells #[I kind,I lane,.slice ea en ec,I id,.bool pass,I num] 140)).drew (aw _ _);have h:=hU.box.mk (.cells #[I kind,I lane,.slice ea en ec,I id,.bool pass,I num] 140);have i:=hU.run.mk (.cells #[I kind,I lane,.slice ea en ec,I id,.bool pass,I num] 140);have d:=Bx.new w #[I kind,I lane,.slice ea en ec,I id,.bool pass,I num] 140;have f:Hid (Bl w (w.alloc (.cells #[I kind,I lane,.slice ea en ec,I id,.bool pass,I num] 140))):=af _ _;have m:(k==0)=false:=by simpa using hk
 clear hC hU;go_enter func73,ntmps73;go_upto_region 1 with fail;generalize w.alloc (.cells #[I kind,I lane,.slice ea en ec,I id,.bool pass,I num] 140)=D at *;have j:=h.c 9 (Px rb);have n:=i.c 0 (Px yb);have p:=d.c 0 (I kind);have r:=d.c 1 (I lane);have u:=d.c 2 (.slice ea en ec);have x:=d.c 3 (I id);have z:=d.c 4 (.bool pass);have B:=d.c 5 (I num);clear h i d;go_upto_region 3 with fail;go_region_held_law (λw'=>w'.cell? ⟨xb,9,none⟩=some (Px rb)/\w'.cell? ⟨rb,0,none⟩=some (Px yb)/\w'.cell? ⟨w.heap.size,0,none⟩=some (I kind)/\w'.cell? ⟨w.heap.size,1,none⟩=some (I lane)/\w'.cell? ⟨w.heap.size,2,none⟩=some (.slice ea en ec)/\w'.cell? ⟨w.heap.size,3,none⟩=some (I id)/\w'.cell? ⟨w.heap.size,4,none⟩=some (.bool pass)/\w'.cell? ⟨w.heap.size,5,none⟩=some (I num)) (go_keep) ((go_at_call 110;refine g.mono ?_;rintro e E ⟨rfl,a⟩;have l:=ae a j;have o:=ae a n;have q:=ae a p;have t:=ae a r;have v:=ae a u;have y:=ae a x;have A:=ae a z;have C:=ae a B;have b:=hd a;clear a))
 all_goals
  go_wp2_with fail;go_ret;exact⟨rfl,f.out.trans ⟨b.out.os,b.out.tape,b.out.output,b.out.size,λk hk=>b.out.block k (h_ hk f.out.size)⟩⟩
variable{v:Value}{w1 w2:World}
theorem aj (h:Bl w w1)(h2:Bl w1 w2):Bl w w2:=h.trans (h2.mono h.size)
theorem fQ {L:List UInt8}(h:dB w Y xb mb n0 rb yb c s L br keep lv)(hb:Bl w w'):dB w' Y xb mb n0 rb yb c s L br keep lv:=
 ⟨h.box.later hb,h.run.later hb,h.log.later hb,h.yard.later hb,h.nx,h.nr,h.nl,λk hk=>h_ (h.yl k hk) hb.size,h.fm.kept (hb.block _ h.fm.lt)⟩
theorem mS {L:List UInt8}(h:dB w Y xb mb n0 rb yb c s L br keep lv):rb≠xb/\(∀g,lv.ownBlock=some g->g≠xb/\g≠rb):=
 ⟨h.run.ne h.box (by decide),λg hg=>⟨λe=>h.log.ne h.box (by decide) (by rw[hg,e]),λe=>h.log.ne h.run (by decide) (by rw[hg,e])⟩⟩
theorem bz (h:ai w w' S){b o:Nat}{v:Value}(hn:¬S b)(hc:w.cell? ⟨b,o,none⟩=some v):w'.cell? ⟨b,o,none⟩=some v:=
 (L_ (w:=w) (h.block b (aP hc) hn)).trans hc
def kP (S:Nat->Prop)(w w':World):Nat->Prop:=λk=>S k\/(w.heap.size<=k/\k<w'.heap.size)
theorem In.tight (h:In S v){e:TypeId}{size n:Nat}{xs:List Value}(hs:Sl w e size v n xs):In (λk=>S k/\k<w.heap.size) v:=λg hg=>⟨h g hg,hs.lt hg⟩
theorem aJ.tight (h:aJ w S yb mb n0 c s):aJ w (λk=>S k/\k<w.heap.size) yb mb n0 c s:=by
 obtain⟨q,B,A,x,E,h,r⟩:=h;obtain⟨C,F,a⟩:=h.rest;refine⟨q,B,A,x,E,⟨h.qs,h.box,⟨h.que.row,h.que.eds,h.que.fq.tight h.que.row,λy hy=>(h.que.fe y hy).tight (h.que.eds y hy)⟩,h.sub,⟨h.outs.row,h.outs.own.tight h.outs.row⟩,⟨h.fy,h.box.lt⟩,⟨h.fs,h.sub.lt⟩,⟨C,F,λe=>a.nm e.1,a.ml,a.tip.imp (λe=>e) λe=>⟨e,a.map.lt⟩,a.map,⟨a.main.fst,a.main.row,a.main.own.tight a.main.row,λy hy=>⟨(a.main.ids y hy).1,(a.main.ids y hy).2.tight (a.main.ids y hy).1⟩⟩,a.train.snd,a.train.row,a.train.own.tight a.train.row,a.train.nd,λz d=>?_⟩,h.nt⟩,r⟩;obtain⟨l,t,i,d⟩:=a.train.segs z d;refine⟨l,t,i,d.box,⟨d.chs.fst,d.chs.row,d.chs.own.tight d.chs.row,λy hy=>⟨(d.chs.eds y hy).1,(d.chs.eds y hy).2.tight (d.chs.eds y hy).1⟩⟩,?_,⟨d.own,d.box.lt⟩⟩;have n:=d.job;revert n;cases z.2.job with
 |none=>exact λh=>h
 |some j=>
  rintro⟨b,D,m,e,f,g,p,o,u,v⟩;exact⟨b,D,m,e,f,g,p,o,⟨u,f.lt⟩,v.tight g⟩
structure BK (w w':World)(Y:Nat->Prop)(xb mb n0 rb yb:Nat)(c:Cfg)(s:Ts)(L:List UInt8)(keep:Int)(lv:Value):Prop where
 up:∃Y' lv',dB w' Y' xb mb n0 rb yb c s L false keep lv'/\(∀k,Y' k->Y k\/w.heap.size<=k)/\(lv'.ownBlock=lv.ownBlock\/∃g,lv'.ownBlock=some g/\w.heap.size<=g)
 only:ai w w' (λk=>Y k\/k=xb\/lv.ownBlock=some k)
theorem vj (Y:Nat->Prop)(xb mb n0 rb yb:Nat)(c:Cfg)(s s':Ts)(L l:List UInt8)(keep:Int)(lv:Value)(kind lane id num:Int)(pass:Bool)(ea:Option Addr)(en ec:Nat)(w:World)(hU:dB w Y xb mb n0 rb yb c s L false keep lv)(hL:L.length<1099511627776)(hl:l.length<1099511627776)(hC:∀W,Bl w W->c_ 110 #[Px yb,.agg #[I kind,I lane,.slice ea en ec,I id,.bool pass,I num]] W λe W'=>e=.returned (I 0)/\Bl W W')(hY:∀W,Bl w W->c_ 112 #[.agg #[I kind,I lane,.slice ea en ec,I id,.bool pass,I num]] W λe W'=>∃v',e=.returned v'/\eW W W' v' l)(hD:∀W,ai w W (λk=>k=xb\/lv.ownBlock=some k)->aJ W Y yb mb n0 c s->c_ 76 #[Px yb,.agg #[I kind,I lane,.slice ea en ec,I id,.bool pass,I num]] W λe W'=>e=.returned (.tuple #[])/\aJ W' (aE Y W) yb mb n0 c s'/\ai W W' Y):
 c_ 73 #[Px xb,.agg #[I kind,I lane,.slice ea en ec,I id,.bool pass,I num]] w λe w'=>e=.returned (I 0)/\BK w w' Y xb mb n0 rb yb c s' (L++l) keep lv:=by
 have S:=hC (w.alloc (.cells #[I kind,I lane,.slice ea en ec,I id,.bool pass,I num] 140)).drew (aw _ _);have y:=Bx.new w #[I kind,I lane,.slice ea en ec,I id,.bool pass,I num] 140;have K:Hid (Bl w (w.alloc (.cells #[I kind,I lane,.slice ea en ec,I id,.bool pass,I num] 140))):=af _ _;have m:=hd hU;have D:dB (w.alloc (.cells #[I kind,I lane,.slice ea en ec,I id,.bool pass,I num] 140)) Y xb mb n0 rb yb c s L false keep lv:=fQ hU (af _ _);have Z:=hd hY;have T:=hd hD;clear hC hU hY hD;go_enter func73,ntmps73;go_upto_region 1 with fail;generalize w.alloc (.cells #[I kind,I lane,.slice ea en ec,I id,.bool pass,I num] 140)=w0 at *;have c9:=D.box.c 9 (Px rb);have r0:=D.run.c 0 (Px yb);have x0:=y.c 0 (I kind);have x1:=y.c 1 (I lane);have x2:=y.c 2 (.slice ea en ec);have x3:=y.c 3 (I id);have x4:=y.c 4 (.bool pass);have x5:=y.c 5 (I num);have P:=hd y;clear y D;go_upto_region 3 with fail;go_cut [5] from 6 (λt wz=>t=I 0/\Bl w0 wz)
 case first=>
  go_region_held_law (λw'=>w'.cell? ⟨xb,9,none⟩=some (Px rb)/\w'.cell? ⟨rb,0,none⟩=some (Px yb)/\w'.cell? ⟨w.heap.size,0,none⟩=some (I kind)/\w'.cell? ⟨w.heap.size,1,none⟩=some (I lane)/\w'.cell? ⟨w.heap.size,2,none⟩=some (.slice ea en ec)/\w'.cell? ⟨w.heap.size,3,none⟩=some (I id)/\w'.cell? ⟨w.heap.size,4,none⟩=some (.bool pass)/\w'.cell? ⟨w.heap.size,5,none⟩=some (I num)) (go_keep) ((go_at_call 110;refine S.mono ?_;rintro e w2 ⟨rfl,d⟩;have au:=ae d c9;have aB:=ae d r0;have aD:=ae d x0;have aF:=ae d x1;have aG:=ae d x2;have aH:=ae d x3;have aI:=ae d x4;have aK:=ae d x5;have r:=hd d;clear d))
  all_goals
   go_wp2_with fail;go_meet
   case rel=>exact⟨rfl,r.out.os,r.out.tape,r.out.output,r.out.size,r.out.block⟩
 obtain⟨rfl,i⟩:=hcut;rename World=>wz;have v:Hid (Bl w wz):=aj K.out i;have z0:=ae i x0;have z1:=ae i x1;have z2:=ae i x2;have z3:=ae i x3;have z4:=ae i x4;have z5:=ae i x5;have aa:=Z.out wz v.out;have O:Hid (dB wz Y xb mb n0 rb yb c s L false keep lv):=fQ m.out v.out;have R:Hid (Bx wz w.heap.size 140 #[I kind,I lane,.slice ea en ec,I id,.bool pass,I num]):=P.out.later i;clear c9 r0 x0 x1 x2 x3 x4 x5 i S P K Z;go_upto_region 7 with fail;go_fit aa;rintro e w3 ⟨v3,rfl,G⟩;obtain⟨va,vc,rfl⟩:=fL G.1;have j:=fQ O.out G.2;have U:=Cj xb mb rb yb c keep lv (.slice va l.length vc) L l w3 j.box j.run j.log (Sl.of_row G.1) hL hl;have A:Hid (Bl w w3):=aj v.out G.2;have Q:Hid (Bx w3 w.heap.size 140 #[I kind,I lane,.slice ea en ec,I id,.bool pass,I num]):=R.out.later G.2;have N:=hd j;clear G j aa O R z0 z1 z2 z3 z4 z5;go_upto_region 7 with fail;go_fit U;rintro e q ⟨rfl,x,p⟩;have aA:xb<w.heap.size:=m.out.box.lt;have f:ai w q (λk=>k=xb\/lv.ownBlock=some k):=(ai.of_below A.out).trans p.only λk a=>.inl a
 have o:Bx q w.heap.size 140 #[I kind,I lane,.slice ea en ec,I id,.bool pass,I num]:=Q.out.kept p.only (λe=>by
  rcases e with e|e
  ·omega
  have:=m.out.log.lt e;omega)
 have E:=mS m.out
 have C:Bx q rb 137 (dA yb false keep):=N.out.run.kept p.only (λe=>by
  rcases e with e|e
  ·exact E.1 e
  exact(E.2 rb e).2 rfl)
 have V:aJ q Y yb mb n0 c s:=m.out.yard.kept f.size λk a hS=>f.block k a (λe=>by
  rcases hS with hS|rfl
  ·rcases e with e|e
   ·subst e;exact m.out.nx hS
   exact m.out.nl k e hS
  rcases e with e|e
  ·exact m.out.apart.1 e
  exact m.out.apart.2.2.1 e)
 have ah:=T.out q.drew ⟨f.os,f.tape,f.output,f.size,f.block⟩ (V.later ⟨rfl,rfl,rfl,b_ _,λ_ _=>rfl⟩);have c9:=p.box.c 9 (Px rb);have r0:=C.c 0 (Px yb);have am:=o.c 0 (I kind);have an:=o.c 1 (I lane);have ao:=o.c 2 (.slice ea en ec);have ap:=o.c 3 (I id);have aq:=o.c 4 (.bool pass);have ar:=o.c 5 (I num);have n:=hd p;have B:=hd f;have ac:=hd C;clear p f o C V U E Q N T v;have H:Hid (¬Y w.heap.size):=λh=>Nat.lt_irrefl _ (m.out.yl _ h);have nX:Hid (¬Y xb):=m.out.nx;have nR:Hid (¬Y rb):=m.out.nr;go_upto_region 9 with fail;go_region_held_law (λw'=>w'.cell? ⟨xb,9,none⟩=some (Px rb)/\w'.cell? ⟨rb,0,none⟩=some (Px yb)/\w'.cell? ⟨w.heap.size,0,none⟩=some (I kind)/\w'.cell? ⟨w.heap.size,1,none⟩=some (I lane)/\w'.cell? ⟨w.heap.size,2,none⟩=some (.slice ea en ec)/\w'.cell? ⟨w.heap.size,3,none⟩=some (I id)/\w'.cell? ⟨w.heap.size,4,none⟩=some (.bool pass)/\w'.cell? ⟨w.heap.size,5,none⟩=some (I num)) (go_keep) ((go_at_call 76;refine ah.mono ?_;rintro e J ⟨rfl,X,b⟩;have av:=bz b nX.out c9;have aC:=bz b nR.out r0;have v0:=bz b H.out am;have v1:=bz b H.out an;have v2:=bz b H.out ao;have v3:=bz b H.out ap;have v4:=bz b H.out aq;have v5:=bz b H.out ar;have ad:=hd X;have M:=hd b;clear X b))
 all_goals
  go_wp2_with fail;go_ret;have hU:=m.out;have ax:q.heap.size<=J.heap.size:=M.out.size;have ag:w.heap.size<=q.heap.size:=B.out.size
  have al:aJ J (kP Y q J) yb mb n0 c s':=(ad.out.tight).mono (λk a=>by
   rcases a with ⟨a|a,ak⟩
   ·exact .inl a
   ·exact .inr ⟨a,ak⟩) (λa=>by
   have:=m.out.fm.lt;rcases a with a|a
   ·exact m.out.apart.2.2.2 a
   omega)
  have u:ai q J Y:=M.out.drew
  have ab:∀g,x.ownBlock=some g->¬Y g:=λg hg=>by
   rcases n.out.blk with e|⟨g',e,ay⟩
   ·rw[e] at hg;exact hU.nl g hg
   rw[e] at hg;cases hg;intro h;have:=hU.yl _ h;have:=A.out.size;omega
  have lf:x.ownBlock=lv.ownBlock\/∃g,x.ownBlock=some g/\w3.heap.size<=g/\g<q.heap.size:=n.out.blk.imp (λh=>h) (λ⟨g,h1,z⟩=>⟨g,h1,z,n.out.log.lt h1⟩);have az:rb<w.heap.size:=hU.run.lt
  have F:∀k,k<q.heap.size->¬Y k->¬kP Y q J k:=λk a h1 z=>by
   rcases z with z|z
   ·exact h1 z
   omega
  refine⟨rfl,⟨kP Y q J,x,⟨n.out.box.kept u nX.out,ac.out.kept u nR.out,n.out.log.kept λg hg=>u.block g (n.out.log.lt hg) (ab g hg),al,?_,?_,?_,?_,?_⟩,?_,?_⟩,?_⟩
  ·exact F xb (by omega) nX.out
  ·exact F rb (by omega) nR.out
  ·exact λg hg=>F g (n.out.log.lt hg) (ab g hg)
  ·rintro k (a|a)
   ·have:=hU.yl k a;omega
   exact a.2
  ·refine hU.fm.kept ((u.block mb (h_ hU.fm.lt ag) hU.apart.2.2.2).trans (B.out.block mb hU.fm.lt λe=>?_));rcases e with e|e
   ·exact hU.apart.1 e
   exact hU.apart.2.2.1 e
  ·rintro k (a|a)
   ·exact .inl a
   exact .inr (by omega)
  ·exact lf.imp (λh=>h) (λ⟨g,h1,z,_⟩=>⟨g,h1,e_ A.out.size z⟩)
  exact(B.out.mono λk a=>.inr a).trans u λk a=>.inl (.inl a)
structure dH (w:World)(xb mb:Nat)(c:Cfg)(L:List UInt8)(lv:Value):Prop where
 box:Bx w xb 135 (da c mb lv (.pointer none))
 log:Sl w 5 1 lv L.length (bc L)
structure EO (w w':World)(xb mb:Nat)(c:Cfg)(L:List UInt8)(lv:Value):Prop where
 down:∃lv',dH w' xb mb c L lv'/\(lv'.ownBlock=lv.ownBlock\/∃g,lv'.ownBlock=some g/\w.heap.size<=g)
 only:ai w w' (λk=>k=xb\/lv.ownBlock=some k)
theorem AF (Y:Nat->Prop)(xb mb n0 rb yb:Nat)(c:Cfg)(s:Ts)(L l:List UInt8)(keep:Int)(lv:Value)(kind lane id num:Int)(pass:Bool)(ea:Option Addr)(en ec:Nat)(w:World)(hU:dB w Y xb mb n0 rb yb c s L true keep lv)(hL:L.length<1099511627776)(hl:l.length<1099511627776)(hC:∀W,Bl w W->c_ 110 #[Px yb,.agg #[I kind,I lane,.slice ea en ec,I id,.bool pass,I num]] W λe W'=>e=.returned (I 0)/\Bl W W')(hY:∀W,Bl w W->c_ 112 #[.agg #[I kind,I lane,.slice ea en ec,I id,.bool pass,I num]] W λe W'=>∃v',e=.returned v'/\eW W W' v' l)(k:Nat)(hk:(k:Int)=max 0 (min keep l.length)):
 c_ 73 #[Px xb,.agg #[I kind,I lane,.slice ea en ec,I id,.bool pass,I num]] w λe w'=>e=.returned (I 8)/\EO w w' xb mb c (L++l.take k) lv:=by
 have v:=hC (w.alloc (.cells #[I kind,I lane,.slice ea en ec,I id,.bool pass,I num] 140)).drew (aw _ _);have m:=Bx.new w #[I kind,I lane,.slice ea en ec,I id,.bool pass,I num] 140;have p:Hid (Bl w (w.alloc (.cells #[I kind,I lane,.slice ea en ec,I id,.bool pass,I num] 140))):=af _ _;have O:=hd hU;have n:dB (w.alloc (.cells #[I kind,I lane,.slice ea en ec,I id,.bool pass,I num] 140)) Y xb mb n0 rb yb c s L true keep lv:=fQ hU (af _ _);have z:=hd hY;have N:=hd hk;clear hC hU hY hk;go_enter func73,ntmps73;go_upto_region 1 with fail;generalize w.alloc (.cells #[I kind,I lane,.slice ea en ec,I id,.bool pass,I num] 140)=T at *;have C:=n.box.c 9 (Px rb);have M:=n.run.c 0 (Px yb);have E:=m.c 0 (I kind);have F:=m.c 1 (I lane);have G:=m.c 2 (.slice ea en ec);have H:=m.c 3 (I id);have J:=m.c 4 (.bool pass);have K:=m.c 5 (I num);have u:=hd m;clear m n;go_upto_region 3 with fail;go_cut [5] from 6 (λt wz=>t=I 0/\Bl T wz)
 case first=>
  go_region_held_law (λw'=>w'.cell? ⟨xb,9,none⟩=some (Px rb)/\w'.cell? ⟨rb,0,none⟩=some (Px yb)/\w'.cell? ⟨w.heap.size,0,none⟩=some (I kind)/\w'.cell? ⟨w.heap.size,1,none⟩=some (I lane)/\w'.cell? ⟨w.heap.size,2,none⟩=some (.slice ea en ec)/\w'.cell? ⟨w.heap.size,3,none⟩=some (I id)/\w'.cell? ⟨w.heap.size,4,none⟩=some (.bool pass)/\w'.cell? ⟨w.heap.size,5,none⟩=some (I num)) (go_keep) ((go_at_call 110;refine v.mono ?_;rintro e w2 ⟨rfl,a⟩;have P:=ae a C;have Q:=ae a M;have V:=ae a E;have X:=ae a F;have Z:=ae a G;have aa:=ae a H;have ab:=ae a J;have ac:=ae a K;have f:=hd a;clear a))
  all_goals
   go_wp2_with fail;go_meet
   case rel=>exact⟨rfl,f.out.os,f.out.tape,f.out.output,f.out.size,f.out.block⟩
 obtain⟨rfl,b⟩:=hcut;rename World=>wz;have i:=hd (aj p.out b);have z0:=ae b E;have z1:=ae b F;have z2:=ae b G;have z3:=ae b H;have z4:=ae b J;have z5:=ae b K;have A:=z.out wz i.out;have r:=hd (fQ O.out i.out);have B:=hd (u.out.later b);clear C M E F G H J K b v u p z;go_upto_region 7 with fail;go_fit A;rintro e U ⟨v3,rfl,x⟩;obtain⟨R,S,rfl⟩:=fL x.1;have d:=fQ r.out x.2;have y:=xX xb mb rb yb c keep lv (.slice R l.length S) L l U d.box d.run d.log (Sl.of_row x.1) hL hl k N.out;have q:=hd (aj i.out x.2);clear x d A r B z0 z1 z2 z3 z4 z5;go_upto_region 7 with fail;go_fit y;rintro e w4 ⟨rfl,D,o⟩;have C:=o.box.c 9 (.pointer none);have j:=hd o;clear o y i;go_wp2_with fail;go_ret;exact⟨rfl,⟨D,⟨j.out.box,j.out.log⟩,j.out.blk.imp (λh=>h) (λ⟨g,h1,h2⟩=>⟨g,h1,e_ q.out.size h2⟩)⟩,(ai.of_below q.out).trans j.out.only λk hk=>.inl hk⟩
variable{cs:Array Value}{b:Nat}{row:Option Nat}
theorem Bx.drewd (h:Bx w b t cs):Bx w.drew b t cs:=h
theorem lG (h:w.grownBy w' row):w.grownBy w'.drew row:=⟨h.os,h.tape,h.output,h.size,h.block⟩
theorem wu (xb mb:Nat)(c:Cfg)(L:List UInt8)(lv:Value)(kind lane id num:Int)(pass:Bool)(ea:Option Addr)(en ec:Nat)(w:World)(hD:dH w xb mb c L lv):
 c_ 73 #[Px xb,.agg #[I kind,I lane,.slice ea en ec,I id,.bool pass,I num]] w λe w'=>e=.returned (I 8)/\Bl w w':=by
 have a:(w.alloc (.cells #[I kind,I lane,.slice ea en ec,I id,.bool pass,I num] 140)).cell? ⟨xb,9,none⟩=some (.pointer none):=(hD.box.mk _).cell (i:=9) rfl;clear hD;go_enter func73,ntmps73;go_wp2_with fail;go_ret;exact⟨rfl,af _ _⟩
theorem rd (xb mb:Nat)(c:Cfg)(L:List UInt8)(lv:Value)(w:World)(hD:dH w xb mb c L lv):
 c_ 50 #[Px xb] w λe w'=>e=.returned (I 8)/\w'=w:=by
 have a:=hD.box.c 9 (.pointer none);clear hD;go_enter func50,ntmps50;go_wp2_with fail;go_ret;exact⟨rfl,rfl⟩
theorem wl (Y:Nat->Prop)(xb mb n0 rb yb:Nat)(c:Cfg)(s:Ts)(L:List UInt8)(br:Bool)(keep:Int)(lv:Value)(w:World)(hU:dB w Y xb mb n0 rb yb c s L br keep lv):
 c_ 50 #[Px xb] w λe w'=>e=.returned (I 0)/\dH w' xb mb c L lv/\ai w w' (λk=>k=xb):=by
 have b:=hU.box.c 9 (Px rb);have d:=hU.box.fr 9;have a:=hd hU;clear hU;go_enter func50,ntmps50;go_wp2_with fail;go_ret;have h:=a.out;exact⟨rfl,⟨h.box.set 9 _,h.log.grown (ah _ _ _ _) (λg hg e=>(h.log.ne h.box (by decide)) (by rw[hg];exact e.symm))⟩,(ai.refl w _).set (.inl rfl)⟩
theorem rc (xb mb:Nat)(c:Cfg)(L:List UInt8)(lv:Value)(k:Int)(w:World)(hD:dH w xb mb c L lv):
 c_ 29 #[Px xb,I k] w λe w'=>e=.returned (I 8)/\w'=w:=by
 have a:=hD.box.c 9 (.pointer none);clear hD;go_enter func29,ntmps29;go_wp2_with fail;go_ret;exact⟨rfl,rfl⟩
theorem wm (Y:Nat->Prop)(xb mb n0 rb yb:Nat)(c:Cfg)(s:Ts)(L:List UInt8)(br:Bool)(keep:Int)(lv:Value)(k:Int)(w:World)(hU:dB w Y xb mb n0 rb yb c s L br keep lv):
 c_ 29 #[Px xb,I k] w λe w'=>e=.returned (I 0)/\dB w' Y xb mb n0 rb yb c s L true k lv/\ai w w' (λj=>j=rb):=by
 have m:=hU.box.c 9 (Px rb);have p:=hU.run.c 1 (.bool br);have q:=hU.run.c 2 (I keep);have n:=hU.run.fr 1;have o:=hU.run.fr 2;have l:=hd hU;have i:=(mS hU).1;have b:=i.symm;clear hU;go_enter func29,ntmps29;go_upto_region 3 with fail;go_region_held_law (λw'=>w'.cell? ⟨xb,9,none⟩=some (Px rb)) (go_keep) (fail)
 all_goals
  go_wp2_with fail;go_ret;have h:=l.out;have f:=mS h
  have d:∀W:World,Bx W rb 137 (dA yb true k)->w.grownBy W (some rb)->dB W Y xb mb n0 rb yb c s L true k lv/\ai w W (λj=>j=rb):=λW hB hG=>
   ⟨⟨h.box.grown hG (by simpa using b),hB,h.log.grown hG (λg hg e=>(f.2 g hg).2 (by injection e with e;exact e.symm)),h.yard.kept hG.size λj hj a=>hG.block j hj (λe=>by
    injection e with e;rcases a with a|a
    ·exact h.nr (e▸a)
    exact h.apart.2.1 (a.symm.trans e)),h.nx,h.nr,h.nl,λj hj=>h_ (h.yl j hj) hG.size,h.fm.kept (hG.block mb h.fm.lt λe=>h.apart.2.1 (by injection e))⟩,ai.of_grown hG λj e=>by injection e with e;exact e.symm⟩
  first
   |exact⟨rfl,d _ (Bx.drewd ((h.run.set 1 (.bool true)).set 2 (I k))) (lG ((ah _ _ _ _).trans (ah _ _ _ _)))⟩
   |exact⟨rfl,d _ (Bx.drewd ((h.run.set 2 (I k)).set 1 (.bool true))) (lG ((ah _ _ _ _).trans (ah _ _ _ _)))⟩
theorem Sl.bv {L:List UInt8}(h:Sl w 5 1 v L.length (bc L))(hn:L.length<1099511627776):BV w v L:=by
 rcases h.2 with ⟨rfl,j⟩|⟨g,d,a,f,rfl,e,c,b,l,k⟩
 ·exact .inl ⟨I_ j,rfl⟩
 refine .inr ⟨g,d,a,rfl,c,⟨by unfold maxLen at b;omega,hn⟩,(j_.1 e).1,λi hi=>?_⟩;have:=k i (.int .u8 L[i].toNat) (by simp[bc,hi]);simp[World.cell?,e,this]
theorem Du (xb:Nat)(cs:Array Value)(L:List UInt8)(lv:Value)(w:World)(hB:Bx w xb 135 cs)(h8:cs[8]? =some lv)(hL:Sl w 5 1 lv L.length (bc L))(hn:L.length<1099511627776):
 c_ 28 #[Px xb] w λe w'=>e=.returned (.string (bs L))/\w'=w:=by
 have c:=uU (hL.bv hn);have d:=hB.cell h8;obtain⟨a,b,rfl⟩:=hL.form;clear hB hL;go_enter func28,ntmps28;go_wp2;go_ret;exact⟨rfl,rfl⟩
theorem tA (xb:Nat)(id lane:Int)(ea:Option Addr)(en ec:Nat)(k:Int)(R:World->Prop)(w:World)(h:c_ 73 #[Px xb,.agg #[I 1,I lane,.slice ea en ec,I id,.bool false,I 0]] w λe w'=>e=.returned (I k)/\R w'):
 c_ 31 #[Px xb,I id,I lane,.slice ea en ec] w λe w'=>e=.returned (I k)/\R w':=by
 go_enter func31,ntmps31;go_wp2_with fail;go_fit h;rintro e w' ⟨rfl,a⟩;have b:=hd a;clear a h;go_wp2_with fail;go_ret;exact⟨rfl,b.out⟩
theorem tz (xb:Nat)(id:Int)(k:Int)(R:World->Prop)(w:World)(h:c_ 73 #[Px xb,.agg #[I 2,I 0,Zn,I id,.bool false,I 0]] w λe w'=>e=.returned (I k)/\R w'):
 c_ 40 #[Px xb,I id] w λe w'=>e=.returned (I k)/\R w':=by
 go_enter func40,ntmps40;go_wp2_with fail;go_fit h;rintro e w' ⟨rfl,a⟩;have b:=hd a;clear a h;go_wp2_with fail;go_ret;exact⟨rfl,b.out⟩
theorem AG (xb:Nat)(n:Int)(k:Int)(R:World->Prop)(w:World)(h:c_ 73 #[Px xb,.agg #[I 6,I 0,Zn,I 0,.bool false,I n]] w λe w'=>e=.returned (I k)/\R w'):
 c_ 79 #[Px xb,I n] w λe w'=>e=.returned (I k)/\R w':=by
 go_enter func79,ntmps79;go_wp2_with fail;go_fit h;rintro e w' ⟨rfl,a⟩;have b:=hd a;clear a h;go_wp2_with fail;go_ret;exact⟨rfl,b.out⟩
theorem tx (xb mb:Nat)(c:Cfg)(L:List UInt8)(lv:Value)(w:World)(hD:dH w xb mb c L lv):
 c_ 77 #[Px xb] w λe w'=>e=.returned (.tuple #[.agg #[I 0,I 0,I 0],I 8])/\Bl w w':=by
 have b:=hD.box.c 9 (.pointer none);have a:=hD.box.lt;clear hD;go_enter func77,ntmps77;go_wp2_with fail;refine bodyPost_ret (by simp[results,results77,go_sem];rfl) rfl ⟨by rfl,?_⟩;exact af _ _
section
open Go.Maps
theorem Dv (w:World):(Instr.makeMap 194 none).run prog w=.ok (.map (some w.heap.size)) (w.alloc (.map #[] 0)):=by
 simp[Instr.makeMap]
theorem EP (mb:Nat)(n0:Nat)(g:ByteArray->ByteArray)(c:Cfg)(w:World)(hm:aD w mb n0 g):
 c_ 114 #[.agg #[I c.lanes,I c.age,I c.batch,I c.window,I c.retries,I c.deadline,I c.queue],.map (some mb)] w λe w'=>(∃yb,e=.returned (Px yb)/\w.heap.size<=yb/\aJ w' (λk=>w.heap.size<=k/\k<w'.heap.size) yb mb n0 c (Ts.start g))/\Bl w w':=by
 have l:=Dv;have f:=hd hm;have d:=hm.lt;clear hm;go_enter func114,ntmps114;go_wp2_with fail;go_ret;have i:(w.alloc (.cells #[I c.lanes,I c.age,I c.batch,I c.window,I c.retries,I c.deadline,I c.queue] 23)).heap.size=w.heap.size+1:=by simp
 have j:((w.alloc (.cells #[I c.lanes,I c.age,I c.batch,I c.window,I c.retries,I c.deadline,I c.queue] 23)).alloc (.map #[] 0)).heap.size=w.heap.size+1+1:=by simp
 have b:=dR.made (w.alloc (.cells #[I c.lanes,I c.age,I c.batch,I c.window,I c.retries,I c.deadline,I c.queue] 23));have a:=Bx.new ((w.alloc (.cells #[I c.lanes,I c.age,I c.batch,I c.window,I c.retries,I c.deadline,I c.queue] 23)).alloc (.map #[] 0)) (aA c ⟨mb,Zn,Zn,n0⟩ 0 0 (Zn) (w.heap.size+1) 0 (Zn)) 201;rw[j] at a;rw[i] at b;refine⟨⟨_,rfl,by omega,[],w.heap.size+1,Zn,Zn,⟨mb,Zn,Zn,n0⟩,⟨List.Perm.refl _,a,⟨Sl.nil _ _ _,by simp,by simp[In,Value.ownBlock],by simp⟩,b.later (af _ _),⟨Sl.nil _ _ _,by simp[In,Value.ownBlock]⟩,⟨by omega,a.lt⟩,⟨by omega,(b.later (af _ _)).lt⟩,⟨[],[],λh=>by have:=h.1;omega,?_,.inl rfl,f.out.same ?_,⟨rfl,Sl.nil _ _ _,by simp[In,Value.ownBlock],by simp⟩,rfl,Sl.nil _ _ _,by simp[In,Value.ownBlock],by simp,by simp⟩,by simp only;omega⟩,by simp⟩,?_⟩
 ·simp;omega
 ·exact(aK (aK (af _ _) (af _ _)) (af _ _)).block mb d
 exact aK (aK (af _ _) (af _ _)) (af _ _)
end
end
end Go.Proofs.YtgamgomepdfgdaaGreat
