import Derived.Test.YtgamgomepdfgdaaGreatAM14
import Derived.Test.YtgamgomepdfgdaaGreatAM21
set_option maxRecDepth 100000
set_option maxHeartbeats 8000000
namespace Go.Proofs.YtgamgomepdfgdaaGreat
open Go.RowKit Go.Proofs.Tryz
section
variable{d:Kd}{K:Nat->Prop}{V:Value}{w:World}
theorem BL.len {rs:List En}(h:BL w K d V rs):rs.length<=9223372036854775807:=by
 rcases h.row.2 with ⟨_,b⟩|⟨_,_,_,_,_,_,c,a,_⟩
 ·omega
 unfold maxLen at a;omega
theorem Bu (K:Nat->Prop)(bb:Nat)(ts gs js:List En)(fv yv wv tv gv jv:Value)(w:World)(h:sL w K bb ts gs js fv yv wv tv gv jv):
 c_ 55 #[Px bb] w λe w'=>e=.returned (.bool true)/\Bl w w':=by
 obtain⟨z,T,R,S⟩:=h;obtain⟨ta,tc,rfl⟩:=T.row.form;obtain⟨ga,gc,rfl⟩:=R.row.form;obtain⟨ja,jc,rfl⟩:=S.row.form;have U:=hd z;have Y:=hd T;have V:=hd R;have X:=hd S;have ad:=T.len;have ab:=R.len;have ac:=S.len;have aa:∀W:World,(binOp .neq 56 (Zn) (Zn)).run prog W=.ok (.bool false) W:=λW=>run_neq_slice_nil_any W _ _ _ _ _ _ _ underlying56;have Z:∀W:World,(binOp .neq 24 (Zn) (Zn)).run prog W=.ok (.bool false) W:=λW=>run_neq_slice_nil_any W _ _ _ _ _ _ _ underlying24;clear z T R S;go_enter func55,ntmps55;go_wp2;go_loopw [3] (λiv wr=>∃i:Nat,i<=ts.length/\iv=I i/\Hid (Bl w wr)) (λi _=>ts.length-(intOf i).toNat)
 case atStart=>exact⟨0,k_ _,rfl,n_ _ _⟩
 obtain⟨i,L,rfl,l⟩:=hrel;rename World=>wo;have B:wo.cell? ⟨bb,3,none⟩=some (.slice ta ts.length tc):=ae l.out (U.out.cell (i:=3) rfl);by_cases hlt:i<ts.length
 ·obtain⟨g,Q,C,N,J,x,E⟩:=Y.out.read l.out hlt;injection N with hva _ hvc;subst hva hvc;obtain⟨a,u,n,t,m⟩:=Y.out.entry (λ_=>rfl) (i_ hlt);have M:=Y.out.sm _ (i_ hlt);rw[n] at x;generalize ts[i]=r at *;unfold maxLen at t;have s:=hd m;clear m n;go_wp2;go_loopw [4] (λkv wr=>∃q:Nat,q<=r.2.1/\kv=I q/\Hid (Bl wo wr)) (λi _=>r.2.1-(intOf i).toNat)
  case atStart=>exact⟨0,k_ _,rfl,n_ _ _⟩
  obtain⟨q,hq,rfl,b⟩:=hrel;have v:=ae b.out B;have F:=ae b.out x;have y:=ae b.out E;by_cases hqr:q<r.2.1
  ·obtain⟨p,d,rfl,H,j⟩:=s.out q hqr;have O:wr.cell? ⟨p,d+q*2,none⟩=some (I (-1-(r.2.2:Int))):=ae b.out (ae l.out (j 0 _ (by decide) rfl));have P:wr.cell? ⟨p,d+q*2+1,none⟩=some (Zn):=ae b.out (ae l.out (j 1 _ (by decide) rfl));clear j;go_wp2_with fail;have o:=Bx.new wr #[I (-1-(r.2.2:Int)),Zn] 110;have k:Bl wr (wr.alloc (.cells #[I (-1-(r.2.2:Int)),Zn] 110)):=af _ _;have D:=ae k v;have G:=ae k y;have t0:=o.c 0 (I (-1-(r.2.2:Int)));have t1:=o.c 1 Zn;have f:Hid (Bl wo (wr.alloc (.cells #[I (-1-(r.2.2:Int)),Zn] 110))):=aj b.out k;generalize wr.alloc (.cells #[I (-1-(r.2.2:Int)),Zn] 110)=wa at *;clear o k v F y O P;go_quiet (fail);go_wp2_with fail;exact⟨⟨q+1,hqr,by go_num,⟨f.out.os,f.out.tape,f.out.output,f.out.size,f.out.block⟩⟩,by simp[intOf];omega⟩
  go_wp2;exact⟨⟨i+1,by omega,by go_num,aj l.out b.out⟩,by simp[intOf];omega⟩
 have A:=l;go_wp2;go_loopw [6] (λiv wr=>∃i:Nat,i<=gs.length/\iv=I i/\Hid (Bl w wr)) (λi _=>gs.length-(intOf i).toNat)
 case atStart=>exact⟨0,k_ _,rfl,A⟩
 obtain⟨i,L,rfl,l⟩:=hrel;rename World=>wo;have B:wo.cell? ⟨bb,4,none⟩=some (.slice ga gs.length gc):=ae l.out (U.out.cell (i:=4) rfl);by_cases hlt:i<gs.length
 ·obtain⟨g,Q,C,N,J,x,E⟩:=V.out.read l.out hlt;injection N with hva _ hvc;subst hva hvc;obtain⟨a,u,n,t,m⟩:=V.out.entry (λ_=>rfl) (i_ hlt);have M:=V.out.sm _ (i_ hlt);rw[n] at x;generalize gs[i]=r at *;unfold maxLen at t;have s:=hd m;clear m n;go_wp2;go_loopw [7] (λkv wr=>∃q:Nat,q<=r.2.1/\kv=I q/\Hid (Bl wo wr)) (λi _=>r.2.1-(intOf i).toNat)
  case atStart=>exact⟨0,k_ _,rfl,n_ _ _⟩
  obtain⟨q,hq,rfl,b⟩:=hrel;have v:=ae b.out B;have F:=ae b.out x;have y:=ae b.out E;by_cases hqr:q<r.2.1
  ·obtain⟨p,d,rfl,H,j⟩:=s.out q hqr;have O:wr.cell? ⟨p,d+q*4,none⟩=some (Zn):=ae b.out (ae l.out (j 0 _ (by decide) rfl));have P:wr.cell? ⟨p,d+q*4+1,none⟩=some (I 0):=ae b.out (ae l.out (j 1 _ (by decide) rfl));have m2:wr.cell? ⟨p,d+q*4+2,none⟩=some (.bool false):=ae b.out (ae l.out (j 2 _ (by decide) rfl));have m3:wr.cell? ⟨p,d+q*4+3,none⟩=some (I (-1-(r.2.2:Int))):=ae b.out (ae l.out (j 3 _ (by decide) rfl));clear j;go_wp2_with fail;have o:=Bx.new wr #[Zn,I 0,.bool false,I (-1-(r.2.2:Int))] 119;have k:Bl wr (wr.alloc (.cells #[Zn,I 0,.bool false,I (-1-(r.2.2:Int))] 119)):=af _ _;have D:=ae k v;have G:=ae k y;have t0:=o.c 0 Zn;have t1:=o.c 1 (I 0);have t2:=o.c 2 (.bool false);have t3:=o.c 3 (I (-1-(r.2.2:Int)));have f:Hid (Bl wo (wr.alloc (.cells #[Zn,I 0,.bool false,I (-1-(r.2.2:Int))] 119))):=aj b.out k;generalize wr.alloc (.cells #[Zn,I 0,.bool false,I (-1-(r.2.2:Int))] 119)=wa at *;clear o k v F y O P m2 m3;go_quiet (fail);go_wp2_with fail;exact⟨⟨q+1,hqr,by go_num,⟨f.out.os,f.out.tape,f.out.output,f.out.size,f.out.block⟩⟩,by simp[intOf];omega⟩
  go_wp2;exact⟨⟨i+1,by omega,by go_num,aj l.out b.out⟩,by simp[intOf];omega⟩
 have A:=l;go_wp2;go_loopw [9] (λiv wr=>∃i:Nat,i<=js.length/\iv=I i/\Hid (Bl w wr)) (λi _=>js.length-(intOf i).toNat)
 case atStart=>exact⟨0,k_ _,rfl,A⟩
 obtain⟨i,L,rfl,l⟩:=hrel;rename World=>wo;have B:wo.cell? ⟨bb,5,none⟩=some (.slice ja js.length jc):=ae l.out (U.out.cell (i:=5) rfl);by_cases hlt:i<js.length
 ·obtain⟨g,Q,C,N,J,x,E⟩:=X.out.read l.out hlt;injection N with hva _ hvc;subst hva hvc;obtain⟨a,u,n,t,m⟩:=X.out.entry (λ_=>rfl) (i_ hlt);have M:=X.out.sm _ (i_ hlt);rw[n] at x;generalize js[i]=r at *;unfold maxLen at t;have s:=hd m;clear m n;go_wp2;go_loopw [10] (λkv wr=>∃q:Nat,q<=r.2.1/\kv=I q/\Hid (Bl wo wr)) (λi _=>r.2.1-(intOf i).toNat)
  case atStart=>exact⟨0,k_ _,rfl,n_ _ _⟩
  obtain⟨q,hq,rfl,b⟩:=hrel;have v:=ae b.out B;have F:=ae b.out x;have y:=ae b.out E;by_cases hqr:q<r.2.1
  ·obtain⟨p,d,rfl,H,j⟩:=s.out q hqr;have O:wr.cell? ⟨p,d+q*4,none⟩=some (I (-1-(r.2.2:Int))):=ae b.out (ae l.out (j 0 _ (by decide) rfl));have P:wr.cell? ⟨p,d+q*4+1,none⟩=some (I 0):=ae b.out (ae l.out (j 1 _ (by decide) rfl));have m2:wr.cell? ⟨p,d+q*4+2,none⟩=some (Zn):=ae b.out (ae l.out (j 2 _ (by decide) rfl));have m3:wr.cell? ⟨p,d+q*4+3,none⟩=some (Zn):=ae b.out (ae l.out (j 3 _ (by decide) rfl));clear j;go_wp2_with fail;have o:=Bx.new wr #[I (-1-(r.2.2:Int)),I 0,Zn,Zn] 124;have k:Bl wr (wr.alloc (.cells #[I (-1-(r.2.2:Int)),I 0,Zn,Zn] 124)):=af _ _;have D:=ae k v;have G:=ae k y;have t0:=o.c 0 (I (-1-(r.2.2:Int)));have t1:=o.c 1 (I 0);have t2:=o.c 2 Zn;have t3:=o.c 3 Zn;have f:Hid (Bl wo (wr.alloc (.cells #[I (-1-(r.2.2:Int)),I 0,Zn,Zn] 124))):=aj b.out k;generalize wr.alloc (.cells #[I (-1-(r.2.2:Int)),I 0,Zn,Zn] 124)=wa at *;clear o k v F y O P m2 m3;go_quiet (fail);go_wp2_with fail;exact⟨⟨q+1,hqr,by go_num,⟨f.out.os,f.out.tape,f.out.output,f.out.size,f.out.block⟩⟩,by simp[intOf];omega⟩
  go_wp2;exact⟨⟨i+1,by omega,by go_num,aj l.out b.out⟩,by simp[intOf];omega⟩
 go_wp2;go_ret;exact⟨rfl,l.out⟩
theorem uB (K:Nat->Prop)(bb N:Nat)(w:World)(h:cq w K bb N):
 c_ 14 #[Px bb] w λe w'=>e=.returned (.bool true)/\Bl w w':=by
 obtain⟨J,M,L,ts,gs,js,fv,yv,wv,tv,gv,jv,y,_⟩:=h;have P:sL w K bb ts gs js fv yv wv tv gv jv:=⟨y.box,y.t,y.g,y.j⟩;have ah:Hid (∀W,Bl w W->c_ 55 #[Px bb] W λe w'=>e=.returned (.bool true)/\Bl W w'):=λW l=>Bu K bb ts gs js fv yv wv tv gv jv W ⟨P.1.later l,P.2.1.kept λk hk _=>l.block k hk,P.2.2.1.kept λk hk _=>l.block k hk,P.2.2.2.kept λk hk _=>l.block k hk⟩;have hf:=y.f;have G:=y.q;have hi:=y.i;obtain⟨fa,fc,rfl⟩:=hf.row.form;obtain⟨qa,qc,rfl⟩:=G.row.form;obtain⟨ia,ic,rfl⟩:=hi.row.form;have HB:Hid (Bx w bb 88 (aI (.slice fa J.length fc) (.slice ia M.length ic) (.slice qa L.length qc) tv gv jv)):=y.box;have HF:=hd hf;have HI:=hd hi;have HW:=hd G;have al:=hf.len;have am:=G.len;have an:=hi.len;clear P y hf G hi;go_enter func14,ntmps14;go_wp2;go_loopw [3] (λiv wr=>∃i:Nat,i<=J.length/\iv=I i/\Hid (Bl w wr)) (λi _=>J.length-(intOf i).toNat)
 case atStart=>exact⟨0,k_ _,rfl,n_ _ _⟩
 obtain⟨i,U,rfl,l⟩:=hrel;rename World=>wo;have E:wo.cell? ⟨bb,0,none⟩=some (.slice fa J.length fc):=ae l.out (HB.out.cell (i:=0) rfl);by_cases hlt:i<J.length
 ·obtain⟨g,Y,O,X,T,x,Z⟩:=HF.out.read l.out hlt;injection X with hva _ hvc;subst hva hvc;obtain⟨a,z,p,v,o⟩:=HF.out.entry (λ_=>rfl) (i_ hlt);have H:=HF.out.sm _ (i_ hlt);rw[p] at x;generalize J[i]=r at *;unfold maxLen at v;have u:=hd o;have R:=jR r.2.2 H wo;clear o p;go_wp2_with (go_at_call 54;refine R.mono ?_;rintro e w1 ⟨rfl,s⟩;have ab:=ae s E;have ad:=ae s x);have B:=Bx.new w1 #[.string (gd r.2.2).1,.string (gd r.2.2).2] 80;have n:Bl wo (w1.alloc (.cells #[.string (gd r.2.2).1,.string (gd r.2.2).2] 80)):=aj s (af _ _);have x0:=B.c 0 (.string (gd r.2.2).1);have x1:=B.c 1 (.string (gd r.2.2).2);have ac:=ae n E;have ag:=ae n x;have ai:=uA r.2.2;generalize ak:w1.alloc (.cells #[.string (gd r.2.2).1,.string (gd r.2.2).2] 80)=D at *;have d:=hd n;clear E ab x ad Z R s B n ak;go_loopw [5] (λkv wr=>∃q C:Nat,q<=r.2.1/\kv=I q/\wr=D.drewN C) (λi _=>r.2.1-(intOf i).toNat)
  case atStart=>exact⟨0,0,k_ _,rfl,rfl⟩
  obtain⟨q,C,G,rfl,rfl⟩:=hrel;by_cases hqr:q<r.2.1
  ·obtain⟨A,b,rfl,S,m⟩:=u.out q hqr;have m0:D.cell? ⟨A,b+q*2,none⟩=some (.string (gd r.2.2).1):=ae d.out (ae l.out (m 0 _ (by decide) rfl));have m1:D.cell? ⟨A,b+q*2+1,none⟩=some (.string (gd r.2.2).2):=ae d.out (ae l.out (m 1 _ (by decide) rfl));clear m;go_wp2;go_quiet (fail);go_wp2;exact⟨⟨q+1,_,hqr,by go_num,rfl⟩,by simp[intOf];omega⟩
  go_wp2;exact⟨⟨i+1,by omega,by go_num,aj l.out ⟨d.out.os,d.out.tape,d.out.output,d.out.size,d.out.block⟩⟩,by simp[intOf];omega⟩
 have F:=l;go_wp2;go_loopw [6] (λiv wr=>∃i:Nat,i<=M.length/\iv=I i/\Hid (Bl w wr)) (λi _=>M.length-(intOf i).toNat)
 case atStart=>exact⟨0,k_ _,rfl,F⟩
 obtain⟨i,U,rfl,l⟩:=hrel;rename World=>wo;have E:wo.cell? ⟨bb,1,none⟩=some (.slice ia M.length ic):=ae l.out (HB.out.cell (i:=1) rfl);by_cases hlt:i<M.length
 ·obtain⟨g,Y,O,X,T,x,Z⟩:=HI.out.read l.out hlt;injection X with hva _ hvc;subst hva hvc;obtain⟨a,z,p,v,o⟩:=HI.out.entry (λ_=>rfl) (i_ hlt);have H:=HI.out.sm _ (i_ hlt);rw[p] at x;generalize M[i]=r at *;unfold maxLen at v;have u:=hd o;clear o p;go_wp2;go_loopw [7] (λkv wr=>∃q C:Nat,q<=r.2.1/\kv=I q/\wr=wo.drewN C) (λi _=>r.2.1-(intOf i).toNat)
  case atStart=>exact⟨0,0,k_ _,rfl,rfl⟩
  obtain⟨q,C,G,rfl,rfl⟩:=hrel;by_cases hqr:q<r.2.1
  ·obtain⟨A,b,rfl,S,m⟩:=u.out q hqr
   have m0:wo.cell? ⟨A,b+q,none⟩=some (I (-1-(r.2.2:Int))):=by
    have:=ae l.out (m 0 _ (by decide) rfl);rwa [show b+q*dI.size+0=b+q by show b+q*1+0=_;omega] at this
   clear m;go_wp2;go_quiet (fail);go_wp2;exact⟨⟨q+1,_,hqr,by go_num,rfl⟩,by simp[intOf];omega⟩
  go_wp2;exact⟨⟨i+1,by omega,by go_num,aj l.out ⟨rfl,rfl,rfl,b_ _,λ_ _=>rfl⟩⟩,by simp[intOf];omega⟩
 have F:=l;go_wp2;go_loopw [8] (λiv wr=>∃i:Nat,i<=L.length/\iv=I i/\Hid (Bl w wr)) (λi _=>L.length-(intOf i).toNat)
 case atStart=>exact⟨0,k_ _,rfl,F⟩
 obtain⟨i,U,rfl,l⟩:=hrel;rename World=>wo;have E:wo.cell? ⟨bb,2,none⟩=some (.slice qa L.length qc):=ae l.out (HB.out.cell (i:=2) rfl);by_cases hlt:i<L.length
 ·obtain⟨g,Y,O,X,T,x,Z⟩:=HW.out.read l.out hlt;injection X with hva _ hvc;subst hva hvc;obtain⟨a,z,p,v,o⟩:=HW.out.entry (λ_=>rfl) (i_ hlt);have H:=HW.out.sm _ (i_ hlt);rw[p] at x;generalize L[i]=r at *;unfold maxLen at v;have u:=hd o;clear o p;go_wp2;have B:=Bx.new wo #[I (-1-(r.2.2:Int)),I 0,I 0] 71;have n:Bl wo (wo.alloc (.cells #[I (-1-(r.2.2:Int)),I 0,I 0] 71)):=af _ _;have x0:=B.c 0 (I (-1-(r.2.2:Int)));have x1:=B.c 1 (I 0);have x2:=B.c 2 (I 0);have ac:=ae n E;have ag:=ae n x;have ai:=Bt (-1-(r.2.2:Int));generalize wo.alloc (.cells #[I (-1-(r.2.2:Int)),I 0,I 0] 71)=D at *;have d:=hd n;clear E x Z B n;go_loopw [10] (λkv wr=>∃q C:Nat,q<=r.2.1/\kv=I q/\wr=D.drewN C) (λi _=>r.2.1-(intOf i).toNat)
  case atStart=>exact⟨0,0,k_ _,rfl,rfl⟩
  obtain⟨q,C,G,rfl,rfl⟩:=hrel;by_cases hqr:q<r.2.1
  ·obtain⟨A,b,rfl,S,m⟩:=u.out q hqr;have m0:D.cell? ⟨A,b+q*3,none⟩=some (I (-1-(r.2.2:Int))):=ae d.out (ae l.out (m 0 _ (by decide) rfl));have m1:D.cell? ⟨A,b+q*3+1,none⟩=some (I 0):=ae d.out (ae l.out (m 1 _ (by decide) rfl));have m2:D.cell? ⟨A,b+q*3+2,none⟩=some (I 0):=ae d.out (ae l.out (m 2 _ (by decide) rfl));clear m;go_wp2;go_quiet (fail);go_wp2;exact⟨⟨q+1,_,hqr,by go_num,rfl⟩,by simp[intOf];omega⟩
  go_wp2;exact⟨⟨i+1,by omega,by go_num,aj l.out ⟨d.out.os,d.out.tape,d.out.output,d.out.size,d.out.block⟩⟩,by simp[intOf];omega⟩
 have V:=ah.out wo l.out;go_wp2_with fail;go_fit V;rintro e w2 ⟨rfl,Q⟩;have aa:Hid (Bl w w2):=aj l.out Q;clear V Q;go_wp2;go_ret;exact⟨rfl,aa.out⟩
theorem eu (n a b:Int)(r:Bool)(hr:r=true↔(a<=n/\n<=b))(w:World):
 c_ 81 #[I n,I a,I b] w λe w'=>e=.returned (.bool r)/\w'=w:=by
 have c:=hd hr;clear hr;by_cases h1:a<=n
 ·by_cases h2:n<=b
  ·have e:Hid (r=true):=c.out.2 ⟨h1,h2⟩;go_enter func81,ntmps81;go_wp2;go_ret;exact⟨by rw[e.out];rfl,rfl⟩
  have e:Hid (r=false):=by
   show r=false;cases r
   ·rfl
   exact absurd (c.out.1 rfl).2 h2
  go_enter func81,ntmps81;go_wp2;go_ret;exact⟨by rw[e.out];rfl,rfl⟩
 have e:Hid (r=false):=by
  show r=false;cases r
  ·rfl
  exact absurd (c.out.1 rfl).1 h1
 go_enter func81,ntmps81;go_wp2;go_ret;exact⟨by rw[e.out];rfl,rfl⟩
theorem iz (p:Prop):∃r:Bool,r=true↔p:=by
 by_cases h:p
 ·exact⟨true,λ_=>h,λ_=>rfl⟩
 exact⟨false,λx=>(Bool.noConfusion x),λx=>absurd x h⟩
theorem sO (n0 n1 n2 n3 n4 n5 n6:Int)(fa:Option Addr)(fn fc:Nat)(w:World)(hno:¬jq n0 n1 n2 n3 n4 n5 n6):
 c_ 35 #[.agg #[I n0,I n1,I n2,I n3,I n4,I n5,I n6],.slice fa fn fc] w λe w'=>e=.returned (.tuple #[.pointer none,I 1])/\Bl w w':=by
 obtain⟨a,j⟩:=iz (1<=n0/\n0<=4);have r:=eu n0 1 4 a j;obtain⟨b,k⟩:=iz (1<=n1/\n1<=8);have s:=eu n1 1 8 b k;obtain⟨d,l⟩:=iz (1<=n2/\n2<=8);have t:=eu n2 1 8 d l;obtain⟨g,m⟩:=iz (1<=n3/\n3<=4);have u:=eu n3 1 4 g m;obtain⟨c,n⟩:=iz (0<=n4/\n4<=3);have x:=eu n4 0 3 c n;obtain⟨f,o⟩:=iz (1<=n5/\n5<=100);have y:=eu n5 1 100 f o;obtain⟨i,p⟩:=iz (1<=n6/\n6<=16);have z:=eu n6 1 16 i p;have q:Hid (¬(a=true/\b=true/\d=true/\g=true/\c=true/\f=true/\i=true)):=λh=>hno ⟨j.1 h.1,k.1 h.2.1,l.1 h.2.2.1,m.1 h.2.2.2.1,n.1 h.2.2.2.2.1,o.1 h.2.2.2.2.2.1,p.1 h.2.2.2.2.2.2⟩;clear hno j k l m n o p
 have A:a=false\/(a=true/\b=false)\/(a=true/\b=true/\d=false)\/(a=true/\b=true/\d=true/\g=false)\/(a=true/\b=true/\d=true/\g=true):=by
  cases a<;>cases b<;>cases d<;>cases g<;>simp
 have B:c=false\/(c=true/\f=false)\/(c=true/\f=true/\i=false)\/(c=true/\f=true/\i=true):=by
  cases c<;>cases f<;>cases i<;>simp
 rcases A with rfl|⟨rfl,rfl⟩|⟨rfl,rfl,rfl⟩|⟨rfl,rfl,rfl,rfl⟩|⟨rfl,rfl,rfl,rfl⟩<;>rcases B with rfl|⟨rfl,rfl⟩|⟨rfl,rfl,rfl⟩|⟨rfl,rfl,rfl⟩
 all_goals first
  |exact absurd ⟨rfl,rfl,rfl,rfl,rfl,rfl,rfl⟩ q.out
  |(go_enter func35,ntmps35;go_wp2_with (first|(go_at_call 81;go_fit (r _);rintro e w' ⟨rfl,rfl⟩)|(go_at_call 81;go_fit (s _);rintro e w' ⟨rfl,rfl⟩)|(go_at_call 81;go_fit (t _);rintro e w' ⟨rfl,rfl⟩)|(go_at_call 81;go_fit (u _);rintro e w' ⟨rfl,rfl⟩)|(go_at_call 81;go_fit (x _);rintro e w' ⟨rfl,rfl⟩)|(go_at_call 81;go_fit (y _);rintro e w' ⟨rfl,rfl⟩)|(go_at_call 81;go_fit (z _);rintro e w' ⟨rfl,rfl⟩));refine bodyPost_ret (v:=.tuple #[.pointer none,I 1]) (by simp[results,results35,go_sem]) rfl ⟨rfl,af _ _⟩)
variable{l':List Fl}
theorem xw {o:List Fl}(hr:fi l')(hp:l'.Perm o)(hf:∀f∈o,f.2≠⟨#[]⟩)(ha:dr Prod.fst o):fE l' (aF o):=by
 refine iJ hr λf=>?_;rw[hp.mem_iff,dU ha hf]
theorem EF (c:Cfg)(l:List Fl)(fa:Option Addr)(fn fc:Nat)(w:World)(hc:jq c.lanes c.age c.batch c.window c.retries c.deadline c.queue)(hl:ay w (.slice fa fn fc) l)(hn:(l.length+100)*32<=140737488355328)(hsz:∀f∈l,f.1.size<=maxLen):
 c_ 35 #[.agg #[I c.lanes,I c.age,I c.batch,I c.window,I c.retries,I c.deadline,I c.queue],.slice fa fn fc] w λe w'=>((cB dy Prod.fst l/\∃yb fv ss,e=.returned (.tuple #[Px yb,I 0])/\w.heap.size<=yb/\bJ w' yb c fv [] ⟨#[]⟩ false false 0 (Zn)/\w'.ownsRow w.heap.size 80 2 fv ss.length (ss.flatMap cF)/\fi ss/\ss.Perm l)\/(¬cB dy Prod.fst l/\e=.returned (.tuple #[.pointer none,I 2])))/\Bl w w':=by
 have D:=eu c.lanes 1 4 true ⟨λ_=>hc.1,λ_=>rfl⟩;have E:=eu c.age 1 8 true ⟨λ_=>hc.2.1,λ_=>rfl⟩;have F:=eu c.batch 1 8 true ⟨λ_=>hc.2.2.1,λ_=>rfl⟩;have G:=eu c.window 1 4 true ⟨λ_=>hc.2.2.2.1,λ_=>rfl⟩;have H:=eu c.retries 0 3 true ⟨λ_=>hc.2.2.2.2.1,λ_=>rfl⟩;have J:=eu c.deadline 1 100 true ⟨λ_=>hc.2.2.2.2.2.1,λ_=>rfl⟩;have K:=eu c.queue 1 16 true ⟨λ_=>hc.2.2.2.2.2.2,λ_=>rfl⟩;have m:=λW (h:ay W (.slice fa fn fc) l)=>pR l (.slice fa fn fc) W h (by omega);have C:Hid (ay w (.slice fa fn fc) l):=hl;clear hl hc;go_enter func35,ntmps35;go_wp2_with (first|(go_at_call 81;go_fit (D _);rintro e w' ⟨rfl,rfl⟩)|(go_at_call 81;go_fit (E _);rintro e w' ⟨rfl,rfl⟩)|(go_at_call 81;go_fit (F _);rintro e w' ⟨rfl,rfl⟩)|(go_at_call 81;go_fit (G _);rintro e w' ⟨rfl,rfl⟩)|(go_at_call 81;go_fit (H _);rintro e w' ⟨rfl,rfl⟩)|(go_at_call 81;go_fit (J _);rintro e w' ⟨rfl,rfl⟩)|(go_at_call 81;go_fit (K _);rintro e w' ⟨rfl,rfl⟩));have d:=af w (.cells #[I c.lanes,I c.age,I c.batch,I c.window,I c.retries,I c.deadline,I c.queue] 23);have n:=Bx.new w #[I c.lanes,I c.age,I c.batch,I c.window,I c.retries,I c.deadline,I c.queue] 23;generalize w.alloc (.cells #[I c.lanes,I c.age,I c.batch,I c.window,I c.retries,I c.deadline,I c.queue] 23)=s at *;have L:=m s (ay.later C.out d);clear D E F G H J K m;go_fit L;rintro e t ⟨⟨r,rfl,M⟩,A,rfl⟩;have x:Hid (r=true↔cB dy Prod.fst l):=M;have i:Hid (Bl w (s.drewN A)):=⟨d.os,d.tape,d.output,d.size,d.block⟩;have b:Hid (Bx (s.drewN A) w.heap.size 23 #[I c.lanes,I c.age,I c.batch,I c.window,I c.retries,I c.deadline,I c.queue]):=n;generalize s.drewN A=t at *;clear L M d n;cases r
 ·have P:Hid (¬cB dy Prod.fst l):=λh=>Bool.noConfusion (x.out.2 h);go_wp2_with fail;refine bodyPost_ret (v:=.tuple #[.pointer none,I 2]) (by simp[results,results35,go_sem]) rfl ⟨.inr ⟨P.out,rfl⟩,i.out⟩
 have B:Hid (cB dy Prod.fst l):=x.out.1 rfl;have Q:=rN l (.slice fa fn fc) t.drew ((ay.later C.out i.out).later ⟨rfl,rfl,rfl,b_ _,λ_ _=>rfl⟩) (by omega) B.out.2 hsz;have S:=b.out.c 0 (I c.lanes);have T:=b.out.c 1 (I c.age);have U:=b.out.c 2 (I c.batch);have V:=b.out.c 3 (I c.window);have X:=b.out.c 4 (I c.retries);have Y:=b.out.c 5 (I c.deadline);have Z:=b.out.c 6 (I c.queue);clear b x;go_wp2_with fail;go_region_held_law (λw'=>w'.cell? ⟨w.heap.size,0,none⟩=some (I c.lanes)/\w'.cell? ⟨w.heap.size,1,none⟩=some (I c.age)/\w'.cell? ⟨w.heap.size,2,none⟩=some (I c.batch)/\w'.cell? ⟨w.heap.size,3,none⟩=some (I c.window)/\w'.cell? ⟨w.heap.size,4,none⟩=some (I c.retries)/\w'.cell? ⟨w.heap.size,5,none⟩=some (I c.deadline)/\w'.cell? ⟨w.heap.size,6,none⟩=some (I c.queue)) (go_keep) ((go_at_call 83;refine Q.mono ?_;rintro e q ⟨⟨ss,v,rfl,p,o,g⟩,a⟩;obtain⟨N,O,rfl⟩:=ag g;have a0:=ae a S;have a1:=ae a T;have a2:=ae a U;have a3:=ae a V;have a4:=ae a X;have a5:=ae a Y;have a6:=ae a Z;have y:Hid (fi ss):=p;have u:Hid (ss.Perm l):=o;have k:Hid (q.ownsRow t.drew.heap.size 80 2 (.slice N ss.length O) ss.length (ss.flatMap cF)):=g;have j:Hid (Bl t q):=⟨a.os,a.tape,a.output,a.size,a.block⟩;clear p o g a))
 all_goals
  go_wp2_with fail;have z:=i.out.size;have R:=j.out.size;refine bodyPost_ret (v:=.tuple #[Px q.heap.size,I 0]) (by simp[results,results35,go_sem]) rfl ⟨.inl ⟨B.out,q.heap.size,.slice N ss.length O,ss,rfl,by omega,⟨Bx.new q _ _,Sl.nil _ _ _⟩,p_ (cp k.out z) _,y.out,u.out⟩,?_⟩;exact(aj i.out j.out).trans ((af _ _).mono (by omega))
end
end Go.Proofs.YtgamgomepdfgdaaGreat
