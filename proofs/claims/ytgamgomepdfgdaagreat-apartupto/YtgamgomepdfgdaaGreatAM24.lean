import Derived.Test.YtgamgomepdfgdaaGreatAM14
import Derived.Test.YtgamgomepdfgdaaGreatAM15
set_option maxRecDepth 100000
set_option maxHeartbeats 8000000
namespace Go.Proofs.YtgamgomepdfgdaaGreat
open Go.RowKit Go.Proofs.Tryz
theorem uC:(prog.info? 93).map (λi=>(i.zero,i.size,i.bytes))=some (some (.agg #[Zn,I 0]),2,32):=by kernel_rfl
theorem uD:(prog.info? 80).map (λi=>(i.zero,i.size,i.bytes))=some (some (.agg #[.string ⟨#[]⟩,.string ⟨#[]⟩]),2,32):=by kernel_rfl
theorem El (xs:List Value)(a:Option Addr)(n cap bb base N:Nat)(K:Nat->Prop)(w:World)(hB:cq w K bb N)(hN:N<549755813000)(hown:w.ownsRow base 80 2 (.slice a n cap) n xs)(hl:∀g,(Value.slice a n cap).ownBlock=some g->¬K g)(hn:Hid ((n+100)*64<=140737488355328))(hln:n<8796093022208):
 Calls prog 135 #[Px bb,.slice a n cap] w λe w'=>e=.returned (.tuple #[])/\iW w w' K bb N (.slice a n cap):=by
 obtain⟨i0,hi,hz0,hz1,hz2⟩:=info_parts uC;obtain⟨i1,hj,hy0,hy1,hy2⟩:=info_parts uD;have hsz:(prog.info? 80).map (·.size)=some 2:=by rw[hj];simp[hy1]
 obtain⟨fs,yl,ws,ts,gs,js,fv,yv,wv,tv,gv,jv,hb,hnf,hni,hnw,hnt,hng,hnj⟩:=hB;obtain⟨va,vcap,rfl⟩:=hb.f.row.form;have c0:=hb.box.c 0 (.slice va fs.length vcap);have HB:=hd hb;have hkN:fs.length<=N:=hnf;have hll:Hid (∀g,(Value.slice a n cap).ownBlock=some g->g<w.heap.size):=λg hg=>(Sl.of_row hown).lt hg;have HL:=hd hl;have HO:=hd hown;obtain⟨k,hk⟩:∃k,k=fs.length:=⟨_,rfl⟩;have HK:=hd (hk.symm);have hk40:k<1099511627776:=by omega
 have Hle:Hid (fs.length<=N/\yl.length<=N/\ws.length<=N/\ts.length<=N/\gs.length<=N/\js.length<=N):=⟨hnf,hni,hnw,hnt,hng,hnj⟩;rw[<-hk] at c0 hkN;clear hb hown hl hnf hni hnw hnt hng hnj hk;go_enter func135,ntmps135;go_wp2;go_loopw [5] (λiv wr=>∃i:Nat,i<=n/\iv=I i/\Hid (wr.ownsRow base 80 2 (.slice a n cap) n (rep (dF.mrk k) i++xs.drop (i*2)))/\Hid (ai w wr (λq=>(Value.slice a n cap).ownBlock=some q))) (λi _=>n-(intOf i).toNat)
 case atStart=>exact⟨0,k_ _,rfl,by simpa[rep] using HO,ai.refl _ _⟩
 obtain⟨i,hin,rfl,hm,ho⟩:=hrel;by_cases hlt:i<n
 ·have Hfit:Hid (i*2+2<=(rep (dF.mrk k) i++xs.drop (i*2)).length):=by
   show i*2+2<=(rep (dF.mrk k) i++xs.drop (i*2)).length;rw[hm.out.1];omega
  obtain⟨g,rfl⟩:∃g,a=some ⟨g,0,none⟩:=by
   rcases hm.out.2 with ⟨_,h⟩|⟨g,cap',cur,h,_⟩
   ·omega
   exact⟨g,by simpa using (Value.slice.inj h).1⟩
  clear c0;have hfo:=jR k hk40 wr;go_wp2_with (first|(go_at_call 54;refine hfo.mono ?_;rintro e w1 ⟨rfl,hbel⟩)|(refine aZ _ rfl _ _ _ rfl base _ 2 _ _ _ _ _ (t_ hm.out (cO hbel) (Classical.em _)) rfl [.string (gd k).1,.string (gd k).2] rfl hsz Hfit.out (by simp[Value.oneCell']) ?_;intro w2 hrow2 hg2));refine⟨⟨i+1,by omega,by go_num,?_,(ho.out.trans (ai.of_below (S:=λ_=>False) hbel) λ_ h=>h.elim).trans (ai.of_grown (S:=λq=>(Value.slice (some ⟨g,0,none⟩) n cap).ownBlock=some q) hg2 λq h=>h) λ_ h=>.inl h⟩,by simp[intOf];omega⟩;show w2.ownsRow _ _ _ _ _ _;rw[<-jm (m:=dF.mrk k) (size:=2) rfl];exact hrow2
 obtain rfl:i=n:=by omega
 have hs0:Hid (St w wr bb (λV=>aI V yv wv tv gv jv) K (.slice va k vcap) (.slice a i cap) dF k (.slice va fs.length vcap) (.slice a i cap) i fs):=by
  have h1:=hm.out;have h2:=HO.out.1;rw[Y_ (by omega),T_] at h1;have:=BL.start (bx:=λV=>aI V yv wv tv gv jv) HB.out.f HB.out.box HB.out.kb ho.out HL.out (d:=dF) (k:=k) (Sl.of_row h1);rw[HK.out] at this ⊢;exact this
 have q1:Hid (k+1<=maxLen):=fz (by omega);have q2:Hid ((k+1)*32<=140737488355328):=fw (by omega);rw[HK.out] at hs0;have Hrow:Hid (Sl wr 93 2 (.slice va k vcap) k (fs.flatMap cN)):=by have:=hs0.out.row;rw[HK.out] at this;exact this
 have d0:=hs0.out.box.c 0 (.slice va k vcap);clear c0 hm ho;go_wp2_with (at_builtin;refine aG _ rfl _ _ 81 rfl _ i0 _ 2 32 underlying81 hi hz0 hz1 hz2 rfl (by decide) (.slice va k vcap) _ _ rfl (Sl.mk Hrow.out (.cells #[.slice a i cap,I k] 93)) ⟨wr.heap.size,0,none⟩ 1 1 [.slice a i cap,I k] rfl rfl (au wr _ _) (by simp[Value.oneCell']) (by decide) q1.out q2.out ?_;intro V1 w3 hS3 hM3;obtain⟨a1,c1,rfl⟩:=hS3.form;have HS3:=hd hS3;have HM3:=hd hM3;have HA3:=(hs0.out.later (af _ _)).append ⟨by decide,by decide⟩ (by rw[HK.out];exact HS3.out) (by rw[HK.out];exact HM3.out);have e0:w3.cell? ⟨bb,0,none⟩=some (.slice va k vcap):=HA3.1.cell (i:=0) rfl;have f0:=HA3.1.fr 0;clear hS3 hM3 HA3);have hpush:Hid (St w (w3.setCell ⟨bb,0,none⟩ (.slice a1 (k+1) c1)) bb (λV=>aI V yv wv tv gv jv) K (.slice va k vcap) (.slice a i cap) dF k (.slice a1 (k+1) c1) (.slice a i cap) i (fs++[((.slice a i cap:Value),i,k)])):=(hs0.out.later (af _ _)).push (j:=0) ⟨by decide,by decide⟩ (by decide) (by rw[HK.out];exact HS3.out) (by rw[HK.out];exact HM3.out) hk40 rfl
 have hL:Hid (L2 w (w3.setCell ⟨bb,0,none⟩ (.slice a1 (k+1) c1)) bb (λV=>aI V yv wv tv gv jv) K (.slice va k vcap) (.slice a i cap) dF k i (.slice a i cap) 0):=⟨a,cap,a1,c1,fs++[((.slice a i cap:Value),i,k)],rfl,by rw[a_,HK.out];rfl,by
  have h:=hpush.out;have e:(fs++[((.slice a i cap:Value),i,k)]).length=k+1:=by rw[a_,HK.out];rfl
  rw[e];exact h⟩
 generalize w3.setCell ⟨bb,0,none⟩ (.slice a1 (k+1) c1)=w4 at *;clear hs0 Hrow d0 q1 q2 e0 f0 HS3 HM3 hpush;go_loopw [1,6] (λlv iv wr=>∃j:Nat,j<=3/\iv=I j/\Hid (L2 w wr bb (λV=>aI V yv wv tv gv jv) K (.slice va k vcap) (.slice a i cap) dF k i lv j)) (λ_ i _=>3-(intOf i).toNat)
 case atStart=>exact⟨0,by omega,rfl,hL⟩
 obtain⟨j,hj3,rfl,hl2⟩:=hrel;obtain⟨a',cap',va',vcap',rs',rfl,hlen,hst⟩:=hl2.out;have Hlen:=hd hlen;rw[hlen] at hst;have Hst:=hd hst;clear hst hlen hl2 hL;by_cases hlt3:j<3
 ·have q1:Hid (i+j+1<=maxLen):=lp hln hlt3;have q2:Hid ((i+j+1)*32<=140737488355328):=lq (by decide) (ls hn.out hlt3);have q3:Hid (k+j+1+1<=maxLen):=fz (by omega);have q4:Hid ((k+j+1+1)*32<=140737488355328):=fw (by omega);have hfo:=jR k hk40 wr
  go_wp2_with (first
   |(go_at_call 54;refine hfo.mono ?_;rintro e w1 ⟨rfl,hbel⟩;have HS1:Hid (St w w1 bb (λV=>aI V yv wv tv gv jv) K (.slice va k vcap) (.slice a i cap) dF k (.slice va' (k+j+1) vcap') (.slice a' (i+j) cap') (i+j) rs'):=Hst.out.later hbel)
   |(at_builtin;refine aG _ rfl _ _ 24 rfl _ i1 _ 2 32 underlying24 hj hy0 hy1 hy2 rfl (by decide) (.slice a' (i+j) cap') _ _ rfl (Sl.mk HS1.out.list (.cells #[.string (gd k).1,.string (gd k).2] 80)) ⟨w1.heap.size,0,none⟩ 1 1 [.string (gd k).1,.string (gd k).2] rfl rfl (au w1 _ _) (by simp[Value.oneCell']) (by decide) q1.out q2.out ?_;intro lv1 w3 hS3 hM3;obtain⟨a2,c2,rfl⟩:=hS3.form;have Hm:Hid (St w w3 bb (λV=>aI V yv wv tv gv jv) K (.slice va k vcap) (.slice a i cap) dF k (.slice va' (k+j+1) vcap') (.slice a2 (i+j+1) c2) (i+j+1) rs'):=(HS1.out.later (af _ _)).more (by decide) (by decide) (λ_=>rfl) hS3 hM3;have d3:w3.cell? ⟨bb,0,none⟩=some (.slice va' (k+j+1) vcap'):=Hm.out.box.cell (i:=0) rfl;have Hrow3:Hid (Sl w3 93 2 (.slice va' (k+j+1) vcap') (k+j+1) (rs'.flatMap cN)):=(by have:=Hm.out.row;rw[Hlen.out] at this;exact this);clear hS3 hM3)
   |(at_builtin;refine aG _ rfl _ _ 81 rfl _ i0 _ 2 32 underlying81 hi hz0 hz1 hz2 rfl (by decide) (.slice va' (k+j+1) vcap') _ _ rfl (Sl.mk Hrow3.out (.cells #[.slice a2 (i+j+1) c2,I k] 93)) ⟨w3.heap.size,0,none⟩ 1 1 [.slice a2 (i+j+1) c2,I k] rfl rfl (au w3 _ _) (by simp[Value.oneCell']) (by decide) q3.out q4.out ?_;intro V2 w4 hS4 hM4;obtain⟨a3,c3,rfl⟩:=hS4.form;have HS4:=hd hS4;have HM4:=hd hM4;have HA4:=(Hm.out.later (af _ _)).append ⟨by decide,by decide⟩ (by rw[Hlen.out];exact HS4.out) (by rw[Hlen.out];exact HM4.out);have e4:w4.cell? ⟨bb,0,none⟩=some (.slice va' (k+j+1) vcap'):=HA4.1.cell (i:=0) rfl;have f4:=HA4.1.fr 0;clear hS4 hM4 HA4))
  have hpush:St w (w4.setCell ⟨bb,0,none⟩ (.slice a3 (k+j+1+1) c3)) bb (λV=>aI V yv wv tv gv jv) K (.slice va k vcap) (.slice a i cap) dF k (.slice a3 (k+j+1+1) c3) (.slice a2 (i+j+1) c2) (i+j+1) (rs'++[((.slice a2 (i+j+1) c2:Value),i+j+1,k)]):=(Hm.out.later (af _ _)).push (j:=0) ⟨by decide,by decide⟩ (by decide) (by rw[Hlen.out];exact HS4.out) (by rw[Hlen.out];exact HM4.out) hk40 rfl;refine⟨⟨j+1,by omega,by go_num,⟨a2,c2,a3,c3,rs'++[((.slice a2 (i+j+1) c2:Value),i+j+1,k)],rfl,by rw[a_,Hlen.out];rfl,?_⟩⟩,by simp[intOf];omega⟩;have e:(rs'++[((.slice a2 (i+j+1) c2:Value),i+j+1,k)]).length=k+j+1+1:=by rw[a_,Hlen.out];rfl
  rw[e];exact hpush
 obtain rfl:j=3:=by omega
 go_wp2;refine be_ ⟨rfl,?_⟩;have hS:=Hst.out;have hb:=HB.out;rw[HK.out] at hb;have hle:=Hle.out;have hrl:rs'.length<=N+4:=by rw[Hlen.out];omega
 have hsz:=hS.only.size;refine⟨KL K (.slice a i cap) w wr,⟨rs',yl,ws,ts,gs,js,_,_,_,_,_,_,⟨hS.box,.inl hb.kb,KL.lt hb.kl hll.out hsz,hS.done hb.f.fv,hS.other hb.i HL.out hb.f.row hb.box (by decide),hS.other hb.q HL.out hb.f.row hb.box (by decide),hS.other hb.t HL.out hb.f.row hb.box (by decide),hS.other hb.g HL.out hb.f.row hb.box (by decide),hS.other hb.j HL.out hb.f.row hb.box (by decide)⟩,hrl,(by omega),(by omega),(by omega),(by omega),(by omega)⟩,KL.sub,hS.only.mono λq hq=>?_⟩;rcases hq with h|h|h
 ·rw[h];exact .inl hb.kb
 ·exact .inl (hb.f.fv q h)
 exact .inr h
theorem uE:(prog.info? 97).map (λi=>(i.zero,i.size,i.bytes))=some (some (.agg #[Zn,I 0]),2,32):=by kernel_rfl
theorem uF:(prog.info? 71).map (λi=>(i.zero,i.size,i.bytes))=some (some (.agg #[I 0,I 0,I 0]),3,24):=by kernel_rfl
theorem Fm (xs:List Value)(a:Option Addr)(n cap bb base N:Nat)(K:Nat->Prop)(w:World)(hB:cq w K bb N)(hN:N<549755813000)(hown:w.ownsRow base 71 3 (.slice a n cap) n xs)(hl:∀g,(Value.slice a n cap).ownBlock=some g->¬K g)(hn:Hid ((n+100)*64<=140737488355328))(hln:n<8796093022208):
 Calls prog 139 #[Px bb,.slice a n cap] w λe w'=>e=.returned (.tuple #[])/\iW w w' K bb N (.slice a n cap):=by
 obtain⟨i0,hi,am,an,ao⟩:=info_parts uE;obtain⟨i1,hj,aw,al,ax⟩:=info_parts uF;have X:(prog.info? 71).map (·.size)=some 3:=by rw[hj];simp[al]
 obtain⟨fs,yl,B,ts,gs,js,R,yv,wv,Z,T,Y,o,ae,ah,U,ak,ag,aj⟩:=hB;obtain⟨x,b,rfl⟩:=o.q.row.form;have c0:=o.box.c 2 (.slice x B.length b);have HB:=hd o;have aq:B.length<=N:=U;have ar:Hid (∀g,(Value.slice a n cap).ownBlock=some g->g<w.heap.size):=λg hg=>(Sl.of_row hown).lt hg;have HL:=hd hl;have HO:=hd hown;obtain⟨k,hk⟩:∃k,k=B.length:=⟨_,rfl⟩;have A:=hd (hk.symm);have H:k<1099511627776:=by omega
 have ap:Hid (fs.length<=N/\yl.length<=N/\B.length<=N/\ts.length<=N/\gs.length<=N/\js.length<=N):=⟨ae,ah,U,ak,ag,aj⟩;rw[<-hk] at c0 aq;clear o hown hl ae ah U ak ag aj hk;go_enter func139,ntmps139;go_wp2;go_loopw [5] (λiv wr=>∃i:Nat,i<=n/\iv=I i/\Hid (wr.ownsRow base 71 3 (.slice a n cap) n (rep (dW.mrk k) i++xs.drop (i*3)))/\Hid (ai w wr (λq=>(Value.slice a n cap).ownBlock=some q))) (λi _=>n-(intOf i).toNat)
 case atStart=>exact⟨0,k_ _,rfl,by simpa[rep] using HO,ai.refl _ _⟩
 obtain⟨i,az,rfl,hm,ho⟩:=hrel;by_cases hlt:i<n
 ·have ac:Hid (i*3+3<=(rep (dW.mrk k) i++xs.drop (i*3)).length):=by
   show i*3+3<=(rep (dW.mrk k) i++xs.drop (i*3)).length;rw[hm.out.1];omega
  obtain⟨g,rfl⟩:∃g,a=some ⟨g,0,none⟩:=by
   rcases hm.out.2 with ⟨_,h⟩|⟨g,G,ay,h,_⟩
   ·omega
   exact⟨g,by simpa using (Value.slice.inj h).1⟩
  clear c0;go_wp2_with (refine aZ _ rfl _ _ _ rfl base _ 3 _ _ _ _ _ hm.out rfl [I (-1-(k:Int)),I 0,I 0] rfl X ac.out (by simp[Value.oneCell']) ?_;intro w2 hrow2 hg2);refine⟨⟨i+1,by omega,by go_num,?_,ho.out.trans (ai.of_grown (S:=λq=>(Value.slice (some ⟨g,0,none⟩) n cap).ownBlock=some q) hg2 λq h=>h) λ_ h=>.inl h⟩,by simp[intOf];omega⟩;show w2.ownsRow _ _ _ _ _ _;rw[<-jm (m:=dW.mrk k) (size:=3) rfl];exact hrow2
 obtain rfl:i=n:=by omega
 have u:Hid (St w wr bb (λV=>aI R yv V Z T Y) K (.slice x k b) (.slice a i cap) dW k (.slice x B.length b) (.slice a i cap) i B):=by
  have h1:=hm.out;have h2:=HO.out.1;rw[Y_ (by omega),T_] at h1;have:=BL.start (bx:=λV=>aI R yv V Z T Y) HB.out.q HB.out.box HB.out.kb ho.out HL.out (d:=dW) (k:=k) (Sl.of_row h1);rw[A.out] at this ⊢;exact this
 have q1:Hid (k+1<=maxLen):=fz (by omega);have q2:Hid ((k+1)*32<=140737488355328):=fw (by omega);rw[A.out] at u;have D:Hid (Sl wr 97 2 (.slice x k b) k (B.flatMap cN)):=by have:=u.out.row;rw[A.out] at this;exact this
 have d0:=u.out.box.c 2 (.slice x k b);clear c0 hm ho;go_wp2_with (at_builtin;refine aG _ rfl _ _ 83 rfl _ i0 _ 2 32 underlying83 hi am an ao rfl (by decide) (.slice x k b) _ _ rfl (Sl.mk D.out (.cells #[.slice a i cap,I k] 97)) ⟨wr.heap.size,0,none⟩ 1 1 [.slice a i cap,I k] rfl rfl (au wr _ _) (by simp[Value.oneCell']) (by decide) q1.out q2.out ?_;intro V1 w3 hS3 hM3;obtain⟨a1,c1,rfl⟩:=hS3.form;have O:=hd hS3;have M:=hd hM3;have J:=(u.out.later (af _ _)).append ⟨by decide,by decide⟩ (by rw[A.out];exact O.out) (by rw[A.out];exact M.out);have e0:w3.cell? ⟨bb,2,none⟩=some (.slice x k b):=J.1.cell (i:=2) rfl;have f0:=J.1.fr 2;clear hS3 hM3 J);have r:Hid (St w (w3.setCell ⟨bb,2,none⟩ (.slice a1 (k+1) c1)) bb (λV=>aI R yv V Z T Y) K (.slice x k b) (.slice a i cap) dW k (.slice a1 (k+1) c1) (.slice a i cap) i (B++[((.slice a i cap:Value),i,k)])):=(u.out.later (af _ _)).push (j:=2) ⟨by decide,by decide⟩ (by decide) (by rw[A.out];exact O.out) (by rw[A.out];exact M.out) H rfl
 have hL:Hid (L2 w (w3.setCell ⟨bb,2,none⟩ (.slice a1 (k+1) c1)) bb (λV=>aI R yv V Z T Y) K (.slice x k b) (.slice a i cap) dW k i (.slice a i cap) 0):=⟨a,cap,a1,c1,B++[((.slice a i cap:Value),i,k)],rfl,by rw[a_,A.out];rfl,by
  have h:=r.out;have e:(B++[((.slice a i cap:Value),i,k)]).length=k+1:=by rw[a_,A.out];rfl
  rw[e];exact h⟩
 generalize w3.setCell ⟨bb,2,none⟩ (.slice a1 (k+1) c1)=w4 at *;clear u D d0 q1 q2 e0 f0 O M r;go_loopw [1,6] (λlv iv wr=>∃j:Nat,j<=3/\iv=I j/\Hid (L2 w wr bb (λV=>aI R yv V Z T Y) K (.slice x k b) (.slice a i cap) dW k i lv j)) (λ_ i _=>3-(intOf i).toNat)
 case atStart=>exact⟨0,by omega,rfl,hL⟩
 obtain⟨j,aA,rfl,ad⟩:=hrel;obtain⟨a',G,z,p,s,rfl,y,W⟩:=ad.out;have l:=hd y;rw[y] at W;have Q:=hd W;clear W y ad hL;by_cases hlt3:j<3
 ·have q1:Hid (i+j+1<=maxLen):=lp hln hlt3;have q2:Hid ((i+j+1)*24<=140737488355328):=lq (by decide) (ls hn.out hlt3);have q3:Hid (k+j+1+1<=maxLen):=fz (by omega);have q4:Hid ((k+j+1+1)*32<=140737488355328):=fw (by omega)
  go_wp2_with (first
   |(at_builtin;refine aG _ rfl _ _ 61 rfl _ i1 _ 3 24 underlying61 hj aw al ax rfl (by decide) (.slice a' (i+j) G) _ _ rfl (Sl.mk Q.out.list (.cells #[I (-1-(k:Int)),I 0,I 0] 71)) ⟨wr.heap.size,0,none⟩ 1 1 [I (-1-(k:Int)),I 0,I 0] rfl rfl (au wr _ _) (by simp[Value.oneCell']) (by decide) q1.out q2.out ?_;intro lv1 w3 hS3 hM3;obtain⟨E,F,rfl⟩:=hS3.form;have Hm:Hid (St w w3 bb (λV=>aI R yv V Z T Y) K (.slice x k b) (.slice a i cap) dW k (.slice z (k+j+1) p) (.slice E (i+j+1) F) (i+j+1) s):=(Q.out.later (af _ _)).more (by decide) (by decide) (λ_=>rfl) hS3 hM3;have d3:w3.cell? ⟨bb,2,none⟩=some (.slice z (k+j+1) p):=Hm.out.box.cell (i:=2) rfl;have P:Hid (Sl w3 97 2 (.slice z (k+j+1) p) (k+j+1) (s.flatMap cN)):=(by have:=Hm.out.row;rw[l.out] at this;exact this);clear hS3 hM3)
   |(at_builtin;refine aG _ rfl _ _ 83 rfl _ i0 _ 2 32 underlying83 hi am an ao rfl (by decide) (.slice z (k+j+1) p) _ _ rfl (Sl.mk P.out (.cells #[.slice E (i+j+1) F,I k] 97)) ⟨w3.heap.size,0,none⟩ 1 1 [.slice E (i+j+1) F,I k] rfl rfl (au w3 _ _) (by simp[Value.oneCell']) (by decide) q3.out q4.out ?_;intro V2 w4 hS4 hM4;obtain⟨a3,c3,rfl⟩:=hS4.form;have ab:=hd hS4;have aa:=hd hM4;have L:=(Hm.out.later (af _ _)).append ⟨by decide,by decide⟩ (by rw[l.out];exact ab.out) (by rw[l.out];exact aa.out);have e4:w4.cell? ⟨bb,2,none⟩=some (.slice z (k+j+1) p):=L.1.cell (i:=2) rfl;have f4:=L.1.fr 2;clear hS4 hM4 L))
  have r:St w (w4.setCell ⟨bb,2,none⟩ (.slice a3 (k+j+1+1) c3)) bb (λV=>aI R yv V Z T Y) K (.slice x k b) (.slice a i cap) dW k (.slice a3 (k+j+1+1) c3) (.slice E (i+j+1) F) (i+j+1) (s++[((.slice E (i+j+1) F:Value),i+j+1,k)]):=(Hm.out.later (af _ _)).push (j:=2) ⟨by decide,by decide⟩ (by decide) (by rw[l.out];exact ab.out) (by rw[l.out];exact aa.out) H rfl;refine⟨⟨j+1,by omega,by go_num,⟨E,F,a3,c3,s++[((.slice E (i+j+1) F:Value),i+j+1,k)],rfl,by rw[a_,l.out];rfl,?_⟩⟩,by simp[intOf];omega⟩;have e:(s++[((.slice E (i+j+1) F:Value),i+j+1,k)]).length=k+j+1+1:=by rw[a_,l.out];rfl
  rw[e];exact r
 obtain rfl:j=3:=by omega
 go_wp2;refine be_ ⟨rfl,?_⟩;have C:=Q.out;have o:=HB.out;rw[A.out] at o;have aB:=ap.out;have av:s.length<=N+4:=by rw[l.out];omega
 have X:=C.only.size;refine⟨KL K (.slice a i cap) w wr,⟨fs,yl,s,ts,gs,js,_,_,_,_,_,_,⟨C.box,.inl o.kb,KL.lt o.kl ar.out X,C.other o.f HL.out o.q.row o.box (by decide),C.other o.i HL.out o.q.row o.box (by decide),C.done o.q.fv,C.other o.t HL.out o.q.row o.box (by decide),C.other o.g HL.out o.q.row o.box (by decide),C.other o.j HL.out o.q.row o.box (by decide)⟩,(by omega),(by omega),av,(by omega),(by omega),(by omega)⟩,KL.sub,C.only.mono λq hq=>?_⟩;rcases hq with h|h|h
 ·rw[h];exact .inl o.kb
 ·exact .inl (o.q.fv q h)
 exact .inr h
theorem uH:(prog.info? 172).map (λi=>(i.zero,i.size,i.bytes))=some (some (.agg #[Zn,I 0]),2,32):=by kernel_rfl
theorem uG:(prog.info? 110).map (λi=>(i.zero,i.size,i.bytes))=some (some (.agg #[I 0,Zn]),2,32):=by kernel_rfl
def L3 (w wr:World)(bb:Nat)(bx:Value->Array Value)(K:Nat->Prop)(V0 l0:Value)(d:Kd)(k:Nat)(lv:Value)(j:Nat):Prop:=
 ∃a' cap' va' vcap' rs',lv=.slice a' j cap'/\rs'.length=k+j+1/\St w wr bb bx K V0 l0 d k (.slice va' rs'.length vcap') lv j rs'
theorem cZ {p:Prop}(h:p):Hid p:=h
theorem uM:(prog.info? 95).map (λi=>(i.zero,i.size,i.bytes))=some (some (.agg #[Zn,I 0]),2,32):=by kernel_rfl
theorem C7 (xs:List Value)(a:Option Addr)(n cap bb base N:Nat)(K:Nat->Prop)(w:World)(hB:cq w K bb N)(hN:N<549755813000)(hown:w.ownsRow base 3 1 (.slice a n cap) n xs)(hl:∀g,(Value.slice a n cap).ownBlock=some g->¬K g)(hn:Hid ((n+100)*64<=140737488355328))(hln:n<8796093022208):
 Calls prog 183 #[Px bb,.slice a n cap] w λe w'=>e=.returned (.tuple #[])/\iW w w' K bb N (.slice a n cap):=by
 obtain⟨i0,hi,ak,al,am⟩:=info_parts uM;obtain⟨i1,hj,aw,ax,ay⟩:=info_parts kg;obtain⟨fs,D,ws,ts,gs,js,W,yv,wv,tv,X,jv,o,ad,Z,aj,ah,ae,ag⟩:=hB;obtain⟨y,b,rfl⟩:=o.i.row.form;have c0:=o.box.c 1 (.slice y D.length b);have HB:=hd o;have ap:D.length<=N:=Z;have aq:Hid (∀g,(Value.slice a n cap).ownBlock=some g->g<w.heap.size):=λg hg=>(Sl.of_row hown).lt hg;have HL:=hd hl;have HO:=hd hown;obtain⟨k,hk⟩:∃k,k=D.length:=⟨_,rfl⟩;have C:=hd (hk.symm);have M:k<1099511627776:=by omega
 have an:Hid (fs.length<=N/\D.length<=N/\ws.length<=N/\ts.length<=N/\gs.length<=N/\js.length<=N):=⟨ad,Z,aj,ah,ae,ag⟩;rw[<-hk] at c0 ap;clear o hown hl ad Z aj ah ae ag hk;go_enter func183,ntmps183;go_wp2;go_loopw [5] (λiv wr=>∃i:Nat,i<=n/\iv=I i/\Hid (wr.ownsRow base 3 1 (.slice a n cap) n (rep (dI.mrk k) i++xs.drop (i*1)))/\Hid (ai w wr (λq=>(Value.slice a n cap).ownBlock=some q))) (λi _=>n-(intOf i).toNat)
 case atStart=>exact⟨0,k_ _,rfl,by simpa[rep] using HO,ai.refl _ _⟩
 obtain⟨i,aB,rfl,Y,ho⟩:=hrel;by_cases hlt:i<n
 ·have F:Hid (i*1+1<=(rep (dI.mrk k) i++xs.drop (i*1)).length):=by
   show i*1+1<=(rep (dI.mrk k) i++xs.drop (i*1)).length;rw[Y.out.1];omega
  obtain⟨g,rfl⟩:∃g,a=some ⟨g,0,none⟩:=by
   rcases Y.out.2 with ⟨_,h⟩|⟨g,L,az,h,_⟩
   ·omega
   exact⟨g,by simpa using (Value.slice.inj h).1⟩
  obtain⟨u,hu⟩:∃u,(rep (dI.mrk k) i++xs.drop (i*1))[i]? =some u:=⟨_,List.getElem?_eq_getElem (by have:=F.out;omega)⟩
  have d1:wr.cell? ⟨g,i,none⟩=some u:=by
   have:=Y.out.cells (g:=g) rfl i u hu;rwa [bE,O_] at this
  have aA:wr.frozen? ⟨g,i,none⟩=false:=(Sl.of_row Y.out).fr _
  have he:(rep (dI.mrk k) i++xs.drop (i*1)).set i (I (-1-(k:Int)))=rep (dI.mrk k) (i+1)++xs.drop ((i+1)*1):=by
   rw[<-jm (m:=dI.mrk k) (size:=1) rfl,List.set_eq_take_append_cons_drop,if_pos (by have:=F.out;omega)];simp[dI]
  have He:=cZ he;clear c0 he hu;go_wp2;obtain⟨A,ao⟩:=World.ownsRow.stored Y.out i (I (-1-(k:Int)));refine⟨⟨i+1,by omega,by go_num,?_,ho.out.trans (ai.of_grown (S:=λq=>(Value.slice (some ⟨g,0,none⟩) n cap).ownBlock=some q) ao λq h=>h) λ_ h=>.inl h⟩,by simp[intOf];omega⟩;show World.ownsRow _ _ _ _ _ _ _;rw[<-He.out];exact A
 obtain rfl:i=n:=by omega
 have x:Hid (St w wr bb (λV=>aI W V wv tv X jv) K (.slice y k b) (.slice a i cap) dI k (.slice y D.length b) (.slice a i cap) i D):=by
  have h1:=Y.out;have h2:=HO.out.1;rw[Y_ (by omega),T_] at h1;have:=BL.start (bx:=λV=>aI W V wv tv X jv) HB.out.i HB.out.box HB.out.kb ho.out HL.out (d:=dI) (k:=k) (Sl.of_row h1);rw[C.out] at this ⊢;exact this
 have q1:Hid (k+1<=maxLen):=fz (by omega);have q2:Hid ((k+1)*32<=140737488355328):=fw (by omega);rw[C.out] at x;have G:Hid (Sl wr 95 2 (.slice y k b) k (D.flatMap cN)):=by have:=x.out.row;rw[C.out] at this;exact this
 have d0:=x.out.box.c 1 (.slice y k b);clear c0 Y ho;go_wp2_with (at_builtin;refine aG _ rfl _ _ 82 rfl _ i0 _ 2 32 underlying82 hi ak al am rfl (by decide) (.slice y k b) _ _ rfl (Sl.mk G.out (.cells #[.slice a i cap,I k] 95)) ⟨wr.heap.size,0,none⟩ 1 1 [.slice a i cap,I k] rfl rfl (au wr _ _) (by simp[Value.oneCell']) (by decide) q1.out q2.out ?_;intro V1 w3 hS3 hM3;obtain⟨a1,c1,rfl⟩:=hS3.form;have R:=hd hS3;have Q:=hd hM3;have O:=(x.out.later (af _ _)).append ⟨by decide,by decide⟩ (by rw[C.out];exact R.out) (by rw[C.out];exact Q.out);have e0:w3.cell? ⟨bb,1,none⟩=some (.slice y k b):=O.1.cell (i:=1) rfl;have f0:=O.1.fr 1;clear hS3 hM3 O);have r:Hid (St w (w3.setCell ⟨bb,1,none⟩ (.slice a1 (k+1) c1)) bb (λV=>aI W V wv tv X jv) K (.slice y k b) (.slice a i cap) dI k (.slice a1 (k+1) c1) (.slice a i cap) i (D++[((.slice a i cap:Value),i,k)])):=(x.out.later (af _ _)).push (j:=1) ⟨by decide,by decide⟩ (by decide) (by rw[C.out];exact R.out) (by rw[C.out];exact Q.out) M rfl
 have hL:Hid (L2 w (w3.setCell ⟨bb,1,none⟩ (.slice a1 (k+1) c1)) bb (λV=>aI W V wv tv X jv) K (.slice y k b) (.slice a i cap) dI k i (.slice a i cap) 0):=⟨a,cap,a1,c1,D++[((.slice a i cap:Value),i,k)],rfl,by rw[a_,C.out];rfl,by
  have h:=r.out;have e:(D++[((.slice a i cap:Value),i,k)]).length=k+1:=by rw[a_,C.out];rfl
  rw[e];exact h⟩
 generalize w3.setCell ⟨bb,1,none⟩ (.slice a1 (k+1) c1)=w4 at *;clear x G d0 q1 q2 e0 f0 R Q r;go_loopw [1,6] (λlv iv wr=>∃j:Nat,j<=3/\iv=I j/\Hid (L2 w wr bb (λV=>aI W V wv tv X jv) K (.slice y k b) (.slice a i cap) dI k i lv j)) (λ_ i _=>3-(intOf i).toNat)
 case atStart=>exact⟨0,by omega,rfl,hL⟩
 obtain⟨j,aC,rfl,ac⟩:=hrel;obtain⟨a',L,B,p,s,rfl,z,A⟩:=ac.out;have l:=hd z;rw[z] at A;have U:=hd A;clear A z ac hL;by_cases hlt3:j<3
 ·have q1:Hid (i+j+1<=maxLen):=lp hln hlt3;have q2:Hid ((i+j+1)*8<=140737488355328):=lq (by decide) (ls hn.out hlt3);have q3:Hid (k+j+1+1<=maxLen):=fz (by omega);have q4:Hid ((k+j+1+1)*32<=140737488355328):=fw (by omega)
  go_wp2_with (first
   |(at_builtin;refine aG _ rfl _ _ 56 rfl _ i1 _ 1 8 underlying56 hj aw ax ay rfl (by decide) (.slice a' (i+j) L) _ _ rfl (Sl.mk U.out.list (.cells #[I (-1-(k:Int))] 3)) ⟨wr.heap.size,0,none⟩ 1 1 [I (-1-(k:Int))] rfl rfl (au wr _ _) (by simp[Value.oneCell']) (by decide) q1.out q2.out ?_;intro lv1 w3 hS3 hM3;obtain⟨H,J,rfl⟩:=hS3.form;have Hm:Hid (St w w3 bb (λV=>aI W V wv tv X jv) K (.slice y k b) (.slice a i cap) dI k (.slice B (k+j+1) p) (.slice H (i+j+1) J) (i+j+1) s):=(U.out.later (af _ _)).more (by decide) (by decide) (λ_=>rfl) hS3 hM3;have d3:w3.cell? ⟨bb,1,none⟩=some (.slice B (k+j+1) p):=Hm.out.box.cell (i:=1) rfl;have T:Hid (Sl w3 95 2 (.slice B (k+j+1) p) (k+j+1) (s.flatMap cN)):=(by have:=Hm.out.row;rw[l.out] at this;exact this);clear hS3 hM3)
   |(at_builtin;refine aG _ rfl _ _ 82 rfl _ i0 _ 2 32 underlying82 hi ak al am rfl (by decide) (.slice B (k+j+1) p) _ _ rfl (Sl.mk T.out (.cells #[.slice H (i+j+1) J,I k] 95)) ⟨w3.heap.size,0,none⟩ 1 1 [.slice H (i+j+1) J,I k] rfl rfl (au w3 _ _) (by simp[Value.oneCell']) (by decide) q3.out q4.out ?_;intro V2 w4 hS4 hM4;obtain⟨a3,c3,rfl⟩:=hS4.form;have ab:=hd hS4;have aa:=hd hM4;have P:=(Hm.out.later (af _ _)).append ⟨by decide,by decide⟩ (by rw[l.out];exact ab.out) (by rw[l.out];exact aa.out);have e4:w4.cell? ⟨bb,1,none⟩=some (.slice B (k+j+1) p):=P.1.cell (i:=1) rfl;have f4:=P.1.fr 1;clear hS4 hM4 P))
  have r:St w (w4.setCell ⟨bb,1,none⟩ (.slice a3 (k+j+1+1) c3)) bb (λV=>aI W V wv tv X jv) K (.slice y k b) (.slice a i cap) dI k (.slice a3 (k+j+1+1) c3) (.slice H (i+j+1) J) (i+j+1) (s++[((.slice H (i+j+1) J:Value),i+j+1,k)]):=(Hm.out.later (af _ _)).push (j:=1) ⟨by decide,by decide⟩ (by decide) (by rw[l.out];exact ab.out) (by rw[l.out];exact aa.out) M rfl;refine⟨⟨j+1,by omega,by go_num,⟨H,J,a3,c3,s++[((.slice H (i+j+1) J:Value),i+j+1,k)],rfl,by rw[a_,l.out];rfl,?_⟩⟩,by simp[intOf];omega⟩;have e:(s++[((.slice H (i+j+1) J:Value),i+j+1,k)]).length=k+j+1+1:=by rw[a_,l.out];rfl
  rw[e];exact r
 obtain rfl:j=3:=by omega
 go_wp2;refine be_ ⟨rfl,?_⟩;have E:=U.out;have o:=HB.out;rw[C.out] at o;have aD:=an.out;have ar:s.length<=N+4:=by rw[l.out];omega
 have av:=E.only.size;refine⟨KL K (.slice a i cap) w wr,⟨fs,s,ws,ts,gs,js,_,_,_,_,_,_,⟨E.box,.inl o.kb,KL.lt o.kl aq.out av,E.other o.f HL.out o.i.row o.box (by decide),E.done o.i.fv,E.other o.q HL.out o.i.row o.box (by decide),E.other o.t HL.out o.i.row o.box (by decide),E.other o.g HL.out o.i.row o.box (by decide),E.other o.j HL.out o.i.row o.box (by decide)⟩,(by omega),ar,(by omega),(by omega),(by omega),(by omega)⟩,KL.sub,E.only.mono λq hq=>?_⟩;rcases hq with h|h|h
 ·rw[h];exact .inl o.kb
 ·exact .inl (o.i.fv q h)
 exact .inr h
theorem uJ:(prog.info? 174).map (λi=>(i.zero,i.size,i.bytes))=some (some (.agg #[Zn,I 0]),2,32):=by kernel_rfl
theorem uI:(prog.info? 119).map (λi=>(i.zero,i.size,i.bytes))=some (some (.agg #[Zn,I 0,.bool false,I 0]),4,48):=by kernel_rfl
theorem uL:(prog.info? 176).map (λi=>(i.zero,i.size,i.bytes))=some (some (.agg #[Zn,I 0]),2,32):=by kernel_rfl
theorem uK:(prog.info? 124).map (λi=>(i.zero,i.size,i.bytes))=some (some (.agg #[I 0,I 0,Zn,Zn]),4,64):=by kernel_rfl
section
variable{rows:List (Value×Nat×List Value)}{base bb i k m n size:Nat}{K S S':Nat->Prop}{e:TypeId}{w w' wr:World}
def bQ (w w':World)(K:Nat->Prop)(bb n m:Nat)(S:Nat->Prop):Prop:=∃K',cq w' K' bb (n+m)/\(∀k,K' k->K k\/S k\/w.heap.size<=k)/\ai w w' (λk=>K k\/S k)
theorem bQ.start (h:cq w K bb n)(S:Nat->Prop):bQ w w K bb n 0 S:=⟨K,h,λ_ hk=>.inl hk,ai.refl _ _⟩
theorem bQ.step {K':Nat->Prop}{l:Value}(hK:∀k,K' k->K k\/S k\/w.heap.size<=k)(hO:ai w wr (λk=>K k\/S k))(h:iW wr w' K' bb (n+m) l)(hS:∀k,S k->S' k)(hl:∀k,l.ownBlock=some k->S' k):bQ w w' K bb n (m+4) S':=by
 obtain⟨c,d,e,a⟩:=h;have b:=hO.size;refine⟨c,d,λk hk=>?_,(hO.mono λk hk=>hk.imp id (hS k)).trans a λk hk=>?_⟩
 ·rcases e k hk with h|h|h
  ·rcases hK k h with h|h|h
   ·exact .inl h
   ·exact .inr (.inl (hS k h))
   exact .inr (.inr h)
  ·exact .inr (.inl (hl k h))
  exact .inr (.inr (e_ b h))
 rcases hk with h|h
 ·rcases hK k h with h|h|h
  ·exact .inl (.inl h)
  ·exact .inl (.inr (hS k h))
  exact .inr h
 exact .inl (.inr (hl k h))
structure Inn (w:World)(K:Nat->Prop)(base:Nat)(e:TypeId)(size:Nat)(rows:List (Value×Nat×List Value)):Prop where
 row:∀r∈rows,w.ownsRow base e size r.1 r.2.1 r.2.2
 ap:rows.Pairwise λa b=>∀g,a.1.ownBlock=some g->b.1.ownBlock≠some g
 nk:∀r∈rows,∀g,r.1.ownBlock=some g->¬K g
 sm:∀r∈rows,r.2.1<1099511627776
def bC (rows:List (Value×Nat×List Value))(i:Nat):Nat->Prop:=λk=>∃r∈rows.take i,r.1.ownBlock=some k
theorem bC.next (h:bC rows i k):bC rows (i+1) k:=by
 obtain⟨r,a,h⟩:=h;exact⟨r,List.mem_of_mem_take (i:=i) (by rw[List.take_take,U_ (by omega)];exact a),h⟩
theorem bC.this (hi:i<rows.length)(h:rows[i].1.ownBlock=some k):bC rows (i+1) k:=
 ⟨rows[i],by rw[g_ hi];exact List.mem_append_right _ (by simp),h⟩
theorem bC.mem (h:bC rows i k):∃r∈rows,r.1.ownBlock=some k:=by
 obtain⟨r,a,h⟩:=h;exact⟨r,List.mem_of_mem_take a,h⟩
theorem bC.ty (h:Inn w K base e size rows){i k:Nat}(hk:bC rows i k):cy w k e:=by
 obtain⟨r,a,hk⟩:=hk.mem;exact aV (h.row r a) hk
theorem Inn.at (h:Inn w K base e size rows){i:Nat}(hi:i<rows.length){wr:World}{S:Nat->Prop}(hO:ai w wr (λk=>K k\/S k))(hS:∀k,S k->bC rows i k\/∃t,cy w k t/\t≠e):
 wr.ownsRow base e size rows[i].1 rows[i].2.1 rows[i].2.2/\∀K':Nat->Prop,(∀k,K' k->K k\/S k\/w.heap.size<=k)->∀g,rows[i].1.ownBlock=some g->¬K' g:=by
 have c:=i_ hi;have b:=h.row _ c
 have l:∀g,rows[i].1.ownBlock=some g->¬S g:=λg hg hs=>by
  rcases hS g hs with ⟨r,f,m⟩|⟨t,n,d⟩
  ·obtain⟨j,o,rfl⟩:=List.mem_take_iff_getElem.1 f;exact List.pairwise_iff_getElem.1 h.ap j i (by omega) hi (by omega) g m hg
  exact d (n.one (aV b hg))
 refine⟨aN b λg hg=>hO.block g (f_ b g hg).2 λa=>?_,λK' hK g hg a=>?_⟩
 ·rcases a with a|a
  ·exact h.nk _ c g hg a
  exact l g hg a
 rcases hK g a with a|a|a
 ·exact h.nk _ c g hg a
 ·exact l g hg a
 have:=(f_ b g hg).2;omega
theorem jS (h:n<1099511627776):Hid ((n+100)*64<=140737488355328):=e_ (u_ 64 (show n+100<=2199023255552 by omega)) (by decide)
variable{g:ByteArray->ByteArray}{c:Cfg}{rs:List Rc}{r:Rc}{s s':Ts}
def eK (s:Ts):Prop:=∀y∈s.main,y.2.length<=8
theorem eK.step (hI:s.Inv c)(h:eK s)(hs:s.step c=some s'):eK s':=by
 unfold Ts.step at hs;cases e:s.segs with
 |nil=>
  simp only[e] at hs;split at hs
  ·cases hs
  cases hs;exact h
 |cons f m=>
  simp only[e] at hs
  have d:f.l.length<=8:=by
   have b:=hI.tr;rw[e,aO] at b;omega
  split at hs
  ·cases hs;exact h
  split at hs
  ·cases hs;exact h
  split at hs
  ·cases hs
   intro y a;rcases E_.1 a with a|a
   ·exact h y a
   obtain rfl:=o_.1 a;simpa using d
  split at hs
  ·cases hs
   unfold Ts.blame;split
   ·exact h
   exact h
  cases hs
theorem eK.run (hc:c.Ok):∀(n:Nat) {s:Ts},s.Inv c->eK s->eK (s.run c n)
 |0,_,_,h=>h
 |n+1,s,hI,h=>by
  unfold Ts.run
  split
  ·exact h
  rename_i s' hs
  exact eK.run hc n (hI.goes hc hs).1 (h.step hI hs)
theorem eK.does (hI:s.Inv c)(hc:c.Ok)(h:eK s):eK (s.does c r):=by
 unfold Ts.does;split
 ·exact h
 split
 ·exact h
 split
 ·exact h.run hc _ hI
 split
 ·exact h
 split
 ·exact h
 split
 ·exact h
 exact h
theorem eE.mainOk (h:eE c g rs)(hc:c.Ok):eK (Ts.all c g rs):=by
 have a:∀n,n<=rs.length->eK (Ts.all c g (rs.take n)):=λn=>by
  induction n with
  |zero=>intro _ y hy;simp[Ts.all,Ts.start] at hy
  |succ n ih=>
   intro hn;rw[Ts.step_at (by omega)];exact eK.does ((h.take n).inv hc).1 hc (ih (by omega))
 have:=a rs.length (b_ _);rwa [W_] at this
theorem Eo (tl:List Tp)(r0:List (Value×Nat×List Value))(a:Option Addr)(n cap bb base N:Nat)(K:Nat->Prop)(w:World)(hB:cq w K bb N)(hN:N+4*n<549755813000)(htl:n=tl.length)(hown:w.ownsRow base 110 2 (.slice a n cap) n (tl.flatMap cTp))(hl:∀g,(Value.slice a n cap).ownBlock=some g->¬K g)(h0:Inn w K base 3 1 r0)(e0:r0.map Prod.fst=tl.map λy=>y.2)(hn:Hid ((n+100)*64<=140737488355328))(hln:n<8796093022208):
 Calls prog 137 #[Px bb,.slice a n cap] w λe w'=>e=.returned (.tuple #[])/\bQ w w' K bb N (4*n+4) (λk=>(Value.slice a n cap).ownBlock=some k\/∃y∈tl,y.2.ownBlock=some k):=by
 have ar:=hd hB;have HT:=hd htl;have P:=hd hown;have av:=hd hl;have D:=hd h0;have ah:=hd e0;clear hB htl hown hl h0 e0
 have aU:Hid (r0.length=n):=by
  have h:=congrArg List.length ah.out;rw[d_,d_] at h;exact h.trans HT.out.symm
 have aa:Hid (∀(p:Nat) (wr:World) (_:Unit),ai w wr (λk=>K k\/(bC r0 p k))->wr.ownsRow base 110 2 (.slice a n cap) n (tl.flatMap cTp)):=λp wr _ hO=>aN P.out λg hg=>hO.block g (f_ P.out g hg).2 λo=>by
  rcases o with o|o
  ·exact av.out g hg o
  exact absurd ((aV P.out hg).one (bC.ty D.out o)) (by decide)
 go_enter func137,ntmps137;go_wp2_with fail;go_loopw [4] (λiv wr=>∃p:Nat,p<=n/\iv=I p/\Hid (bQ w wr K bb N (4*p) (λk=>bC r0 p k))) (λi _=>n-(intOf i).toNat)
 case atStart=>exact⟨0,k_ _,rfl,bQ.start ar.out _⟩
 obtain⟨p,a4,rfl,G⟩:=hrel;obtain⟨B,rfl⟩:∃B,B=wr:=⟨_,rfl⟩;obtain⟨L,Y,E,F⟩:=G.out;have R:=aa.out p B () F;by_cases hlt:p<n
 ·have aJ:p<tl.length:=by have:=HT.out;omega
  obtain⟨g,rfl⟩:∃g,a=some ⟨g,0,none⟩:=by
   rcases R.2 with ⟨_,h⟩|⟨g,Q,aY,h,_⟩
   ·omega
   exact⟨g,by simpa using (Value.slice.inj h).1⟩
  have H:p<r0.length:=by have:=aU.out;omega
  have aK:r0[p].1=tl[p].2:=by
   have h:=congrArg (λl=>l[p]?) ah.out;simpa[H,aJ] using h
  have az:(tl.flatMap cTp)[p*2+1]? =some r0[p].1:=by
   have h:=aq cTp 2 (λ_=>rfl) tl p 1 aJ (by decide);rw[aK];exact h
  obtain⟨aQ,aR,z⟩:∃ia ic,r0[p].1=.slice ia r0[p].2.1 ic:=ag (D.out.row _ (i_ H))
  have d0:B.cell? ⟨g,p*2+1,none⟩=some (.slice aQ r0[p].2.1 aR):=by
   have h:=World.ownsRow.cells R (g:=g) rfl (p*2+1) _ az;rw[bE,O_,z] at h;exact h
  have ak:=hd z;clear az aK z;obtain⟨hr,o⟩:=D.out.at H F λk o=>.inl o;rw[ak.out] at hr o;have hC:=C7 _ aQ _ aR bb base (N+4*p) L B Y (by omega) hr (o L E) (jS (D.out.sm _ (i_ H))) (by have:=D.out.sm _ (i_ H);omega);have aS:=cZ E;have aT:=cZ F;clear hr o R G Y E F;obtain⟨m0,aB⟩:∃m0,m0=r0[p].2.1:=⟨_,rfl⟩;rw[<-aB] at hC d0 ak;clear aB;go_wp2_with fail;go_fit hC;rintro e w2 ⟨rfl,hw⟩;have J:bQ w w2 K bb N (4*p+4) (λk=>bC r0 (p+1) k):=bQ.step aS.out aT.out hw (λk o=>o.next) λk o=>bC.this H (by rw[ak.out];exact o);have aW:Hid (bQ w w2 K bb N (4*(p+1)) (λk=>bC r0 (p+1) k)):=by rw[show 4*(p+1)=4*p+4 by omega];exact J
  clear J hw hC;go_wp2_with fail;exact⟨⟨p+1,by omega,by go_num,aW⟩,by simp[intOf];omega⟩
 obtain rfl:n=p:=by omega
 have hl:∀g,(Value.slice a n cap).ownBlock=some g->¬L g:=λg hg o=>by
  rcases E g o with o|o|o
  ·exact av.out g hg o
  ·exact absurd ((aV P.out hg).one (bC.ty D.out o)) (by decide)
  have:=(f_ P.out g hg).2;omega
 have Z:Hid (∀wr,iW B wr L bb (N+4*n) (.slice a n cap)->bQ w wr K bb N (4*n+4) (λk=>(Value.slice a n cap).ownBlock=some k\/∃y∈tl,y.2.ownBlock=some k)):=λwr hw=>bQ.step E F hw (λk o=>by
  obtain⟨r,hr,o⟩:=bC.mem o;have h:=x_ (f:=Prod.fst) hr;rw[ah.out] at h;obtain⟨y,hy,e⟩:=q_.1 h
  exact .inr ⟨y,hy,by rw[e];exact o⟩) λk o=>.inl o
 have hown:=R;obtain⟨M,hM⟩:∃M,M=N+4*n:=⟨_,rfl⟩;rw[<-hM] at Y hN Z;clear hM R G F E ar;obtain⟨i0,hi,aM,aO,aP⟩:=info_parts uH;obtain⟨i1,hj,a8,aL,a9⟩:=info_parts uG;have ap:(prog.info? 110).map (·.size)=some 2:=by rw[hj];simp[aL]
 obtain⟨fs,yl,ws,X,gs,js,fv,yv,wv,tv,gv,jv,u,aC,aE,aH,ao,aD,aF⟩:=Y;obtain⟨O,b,rfl⟩:=u.t.row.form;have c0:=u.box.c 3 (.slice O X.length b);have HB:=hd u;have a5:X.length<=M:=ao;have a6:Hid (∀g,(Value.slice a n cap).ownBlock=some g->g<B.heap.size):=λg hg=>(Sl.of_row hown).lt hg;have HL:=hd hl;have HO:=hd hown;obtain⟨k,o⟩:∃k,k=X.length:=⟨_,rfl⟩;have W:=hd (o.symm);have ac:k<1099511627776:=by omega
 have aX:Hid (fs.length<=M/\yl.length<=M/\ws.length<=M/\X.length<=M/\gs.length<=M/\js.length<=M):=⟨aC,aE,aH,ao,aD,aF⟩;rw[<-o] at c0 a5;clear u hown hl aa aC aE aH ao aD aF o;go_wp2;go_loopw [6] (λiv wr=>∃i:Nat,i<=n/\iv=I i/\Hid (wr.ownsRow base 110 2 (.slice a n cap) n (rep (dT.mrk k) i++(tl.flatMap cTp).drop (i*2)))/\Hid (ai B wr (λq=>(Value.slice a n cap).ownBlock=some q))) (λi _=>n-(intOf i).toNat)
 case atStart=>exact⟨0,k_ _,rfl,by simpa[rep] using HO,ai.refl _ _⟩
 obtain⟨i,a4,rfl,hm,ho⟩:=hrel;by_cases hlt:i<n
 ·have ay:Hid (i*2+2<=(rep (dT.mrk k) i++(tl.flatMap cTp).drop (i*2)).length):=by
   show i*2+2<=(rep (dT.mrk k) i++(tl.flatMap cTp).drop (i*2)).length;rw[hm.out.1];omega
  obtain⟨g,rfl⟩:∃g,a=some ⟨g,0,none⟩:=by
   rcases hm.out.2 with ⟨_,h⟩|⟨g,Q,aY,h,_⟩
   ·omega
   exact⟨g,by simpa using (Value.slice.inj h).1⟩
  clear c0;go_wp2_with (refine aZ _ rfl _ _ _ rfl base _ 2 _ _ _ _ _ hm.out rfl [I (-1-(k:Int)),Zn] rfl ap ay.out (by simp[Value.oneCell']) ?_;intro w2 hrow2 hg2);refine⟨⟨i+1,by omega,by go_num,?_,ho.out.trans (ai.of_grown (S:=λq=>(Value.slice (some ⟨g,0,none⟩) n cap).ownBlock=some q) hg2 λq h=>h) λ_ h=>.inl h⟩,by simp[intOf];omega⟩;show w2.ownsRow _ _ _ _ _ _;rw[<-jm (m:=dT.mrk k) (size:=2) rfl];exact hrow2
 obtain rfl:i=n:=by omega
 have z:Hid (St B wr bb (λV=>aI fv yv wv V gv jv) L (.slice O k b) (.slice a i cap) dT k (.slice O X.length b) (.slice a i cap) i X):=by
  have h1:=hm.out;have h2:=HO.out.1;rw[Y_ (by omega),T_] at h1;have:=BL.start (bx:=λV=>aI fv yv wv V gv jv) HB.out.t HB.out.box HB.out.kb ho.out HL.out (d:=dT) (k:=k) (Sl.of_row h1);rw[W.out] at this ⊢;exact this
 have q1:Hid (k+1<=maxLen):=fz (by omega);have q2:Hid ((k+1)*32<=140737488355328):=fw (by omega);rw[W.out] at z;have ab:Hid (Sl wr 172 2 (.slice O k b) k (X.flatMap cN)):=by have:=z.out.row;rw[W.out] at this;exact this
 have d0:=z.out.box.c 3 (.slice O k b);clear c0 hm ho;go_wp2_with (at_builtin;refine aG _ rfl _ _ 84 rfl _ i0 _ 2 32 underlying84 hi aM aO aP rfl (by decide) (.slice O k b) _ _ rfl (Sl.mk ab.out (.cells #[.slice a i cap,I k] 172)) ⟨wr.heap.size,0,none⟩ 1 1 [.slice a i cap,I k] rfl rfl (au wr _ _) (by simp[Value.oneCell']) (by decide) q1.out q2.out ?_;intro V1 w3 hS3 hM3;obtain⟨a1,c1,rfl⟩:=hS3.form;have al:=hd hS3;have aj:=hd hM3;have ad:=(z.out.later (af _ _)).append ⟨by decide,by decide⟩ (by rw[W.out];exact al.out) (by rw[W.out];exact aj.out);have e0:w3.cell? ⟨bb,3,none⟩=some (.slice O k b):=ad.1.cell (i:=3) rfl;have f0:=ad.1.fr 3;clear hS3 hM3 ad);have A:Hid (St B (w3.setCell ⟨bb,3,none⟩ (.slice a1 (k+1) c1)) bb (λV=>aI fv yv wv V gv jv) L (.slice O k b) (.slice a i cap) dT k (.slice a1 (k+1) c1) (.slice a i cap) i (X++[((.slice a i cap:Value),i,k)])):=(z.out.later (af _ _)).push (j:=3) ⟨by decide,by decide⟩ (by decide) (by rw[W.out];exact al.out) (by rw[W.out];exact aj.out) ac rfl
 have hL:Hid (L2 B (w3.setCell ⟨bb,3,none⟩ (.slice a1 (k+1) c1)) bb (λV=>aI fv yv wv V gv jv) L (.slice O k b) (.slice a i cap) dT k i (.slice a i cap) 0):=⟨a,cap,a1,c1,X++[((.slice a i cap:Value),i,k)],rfl,by rw[a_,W.out];rfl,by
  have h:=A.out;have e:(X++[((.slice a i cap:Value),i,k)]).length=k+1:=by rw[a_,W.out];rfl
  rw[e];exact h⟩
 generalize w3.setCell ⟨bb,3,none⟩ (.slice a1 (k+1) c1)=w4 at *;clear z ab d0 q1 q2 e0 f0 al aj A;go_loopw [1,7] (λlv iv wr=>∃j:Nat,j<=3/\iv=I j/\Hid (L2 B wr bb (λV=>aI fv yv wv V gv jv) L (.slice O k b) (.slice a i cap) dT k i lv j)) (λ_ i _=>3-(intOf i).toNat)
 case atStart=>exact⟨0,by omega,rfl,hL⟩
 obtain⟨j,ba,rfl,aA⟩:=hrel;obtain⟨a',Q,U,x,C,rfl,T,J⟩:=aA.out;have s:=hd T;rw[T] at J;have an:=hd J;clear J T aA hL;by_cases hlt3:j<3
 ·have q1:Hid (i+j+1<=maxLen):=lp hln hlt3;have q2:Hid ((i+j+1)*32<=140737488355328):=lq (by decide) (ls hn.out hlt3);have q3:Hid (k+j+1+1<=maxLen):=fz (by omega);have q4:Hid ((k+j+1+1)*32<=140737488355328):=fw (by omega)
  go_wp2_with (first
   |(at_builtin;refine aG _ rfl _ _ 106 rfl _ i1 _ 2 32 underlying106 hj a8 aL a9 rfl (by decide) (.slice a' (i+j) Q) _ _ rfl (Sl.mk an.out.list (.cells #[I (-1-(k:Int)),Zn] 110)) ⟨wr.heap.size,0,none⟩ 1 1 [I (-1-(k:Int)),Zn] rfl rfl (au wr _ _) (by simp[Value.oneCell']) (by decide) q1.out q2.out ?_;intro lv1 w3 hS3 hM3;obtain⟨a2,c2,rfl⟩:=hS3.form;have Hm:Hid (St B w3 bb (λV=>aI fv yv wv V gv jv) L (.slice O k b) (.slice a i cap) dT k (.slice U (k+j+1) x) (.slice a2 (i+j+1) c2) (i+j+1) C):=(an.out.later (af _ _)).more (by decide) (by decide) (λ_=>rfl) hS3 hM3;have d3:w3.cell? ⟨bb,3,none⟩=some (.slice U (k+j+1) x):=Hm.out.box.cell (i:=3) rfl;have am:Hid (Sl w3 172 2 (.slice U (k+j+1) x) (k+j+1) (C.flatMap cN)):=(by have:=Hm.out.row;rw[s.out] at this;exact this);clear hS3 hM3)
   |(at_builtin;refine aG _ rfl _ _ 84 rfl _ i0 _ 2 32 underlying84 hi aM aO aP rfl (by decide) (.slice U (k+j+1) x) _ _ rfl (Sl.mk am.out (.cells #[.slice a2 (i+j+1) c2,I k] 172)) ⟨w3.heap.size,0,none⟩ 1 1 [.slice a2 (i+j+1) c2,I k] rfl rfl (au w3 _ _) (by simp[Value.oneCell']) (by decide) q3.out q4.out ?_;intro V2 w4 hS4 hM4;obtain⟨a3,c3,rfl⟩:=hS4.form;have ax:=hd hS4;have aw:=hd hM4;have ae:=(Hm.out.later (af _ _)).append ⟨by decide,by decide⟩ (by rw[s.out];exact ax.out) (by rw[s.out];exact aw.out);have e4:w4.cell? ⟨bb,3,none⟩=some (.slice U (k+j+1) x):=ae.1.cell (i:=3) rfl;have f4:=ae.1.fr 3;clear hS4 hM4 ae))
  have A:St B (w4.setCell ⟨bb,3,none⟩ (.slice a3 (k+j+1+1) c3)) bb (λV=>aI fv yv wv V gv jv) L (.slice O k b) (.slice a i cap) dT k (.slice a3 (k+j+1+1) c3) (.slice a2 (i+j+1) c2) (i+j+1) (C++[((.slice a2 (i+j+1) c2:Value),i+j+1,k)]):=(Hm.out.later (af _ _)).push (j:=3) ⟨by decide,by decide⟩ (by decide) (by rw[s.out];exact ax.out) (by rw[s.out];exact aw.out) ac rfl;refine⟨⟨j+1,by omega,by go_num,⟨a2,c2,a3,c3,C++[((.slice a2 (i+j+1) c2:Value),i+j+1,k)],rfl,by rw[a_,s.out];rfl,?_⟩⟩,by simp[intOf];omega⟩;have e:(C++[((.slice a2 (i+j+1) c2:Value),i+j+1,k)]).length=k+j+1+1:=by rw[a_,s.out];rfl
  rw[e];exact A
 obtain rfl:j=3:=by omega
 go_wp2;refine be_ ⟨rfl,?_⟩;have G:=an.out;have u:=HB.out;rw[W.out] at u;have bc:=aX.out;have a7:C.length<=M+4:=by rw[s.out];omega
 have ap:=G.only.size
 have a0:iW B wr L bb M (.slice a i cap):=by
  refine⟨KL L (.slice a i cap) B wr,⟨fs,yl,ws,C,gs,js,_,_,_,_,_,_,⟨G.box,.inl u.kb,KL.lt u.kl a6.out ap,G.other u.f HL.out u.t.row u.box (by decide),G.other u.i HL.out u.t.row u.box (by decide),G.other u.q HL.out u.t.row u.box (by decide),G.done u.t.fv,G.other u.g HL.out u.t.row u.box (by decide),G.other u.j HL.out u.t.row u.box (by decide)⟩,(by omega),(by omega),(by omega),a7,(by omega),(by omega)⟩,KL.sub,G.only.mono λq hq=>?_⟩;rcases hq with h|h|h
  ·rw[h];exact .inl u.kb
  ·exact .inl (u.t.fv q h)
  exact .inr h
 exact Z.out wr a0
theorem Ep (tl:List Gv)(r0:List (Value×Nat×List Value))(a:Option Addr)(n cap bb base N:Nat)(K:Nat->Prop)(w:World)(hB:cq w K bb N)(hN:N+4*n<549755813000)(htl:n=tl.length)(hown:w.ownsRow base 119 4 (.slice a n cap) n (tl.flatMap cGv))(hl:∀g,(Value.slice a n cap).ownBlock=some g->¬K g)(h0:Inn w K base 3 1 r0)(e0:r0.map Prod.fst=tl.map λy=>y.2)(hn:Hid ((n+100)*64<=140737488355328))(hln:n<8796093022208):
 Calls prog 141 #[Px bb,.slice a n cap] w λe w'=>e=.returned (.tuple #[])/\bQ w w' K bb N (4*n+4) (λk=>(Value.slice a n cap).ownBlock=some k\/∃y∈tl,y.2.ownBlock=some k):=by
 have ar:=hd hB;have HT:=hd htl;have P:=hd hown;have av:=hd hl;have D:=hd h0;have ah:=hd e0;clear hB htl hown hl h0 e0
 have aU:Hid (r0.length=n):=by
  have h:=congrArg List.length ah.out;rw[d_,d_] at h;exact h.trans HT.out.symm
 have aa:Hid (∀(p:Nat) (wr:World) (_:Unit),ai w wr (λk=>K k\/(bC r0 p k))->wr.ownsRow base 119 4 (.slice a n cap) n (tl.flatMap cGv)):=λp wr _ hO=>aN P.out λg hg=>hO.block g (f_ P.out g hg).2 λo=>by
  rcases o with o|o
  ·exact av.out g hg o
  exact absurd ((aV P.out hg).one (bC.ty D.out o)) (by decide)
 go_enter func141,ntmps141;go_wp2_with fail;go_loopw [4] (λiv wr=>∃p:Nat,p<=n/\iv=I p/\Hid (bQ w wr K bb N (4*p) (λk=>bC r0 p k))) (λi _=>n-(intOf i).toNat)
 case atStart=>exact⟨0,k_ _,rfl,bQ.start ar.out _⟩
 obtain⟨p,a4,rfl,G⟩:=hrel;obtain⟨B,rfl⟩:∃B,B=wr:=⟨_,rfl⟩;obtain⟨L,Y,E,F⟩:=G.out;have R:=aa.out p B () F;by_cases hlt:p<n
 ·have aJ:p<tl.length:=by have:=HT.out;omega
  obtain⟨g,rfl⟩:∃g,a=some ⟨g,0,none⟩:=by
   rcases R.2 with ⟨_,h⟩|⟨g,Q,aY,h,_⟩
   ·omega
   exact⟨g,by simpa using (Value.slice.inj h).1⟩
  have H:p<r0.length:=by have:=aU.out;omega
  have aK:r0[p].1=tl[p].2:=by
   have h:=congrArg (λl=>l[p]?) ah.out;simpa[H,aJ] using h
  have az:(tl.flatMap cGv)[p*4+0]? =some r0[p].1:=by
   have h:=aq cGv 4 (λ_=>rfl) tl p 0 aJ (by decide);rw[aK];exact h
  obtain⟨aQ,aR,z⟩:∃ia ic,r0[p].1=.slice ia r0[p].2.1 ic:=ag (D.out.row _ (i_ H))
  have d0:B.cell? ⟨g,p*4,none⟩=some (.slice aQ r0[p].2.1 aR):=by
   have h:=World.ownsRow.cells R (g:=g) rfl (p*4+0) _ az;rw[bE,O_,z] at h;exact h
  have ak:=hd z;clear az aK z;obtain⟨hr,o⟩:=D.out.at H F λk o=>.inl o;rw[ak.out] at hr o;have hC:=C7 _ aQ _ aR bb base (N+4*p) L B Y (by omega) hr (o L E) (jS (D.out.sm _ (i_ H))) (by have:=D.out.sm _ (i_ H);omega);have aS:=cZ E;have aT:=cZ F;clear hr o R G Y E F;obtain⟨m0,aB⟩:∃m0,m0=r0[p].2.1:=⟨_,rfl⟩;rw[<-aB] at hC d0 ak;clear aB;go_wp2_with fail;go_fit hC;rintro e w2 ⟨rfl,hw⟩;have J:bQ w w2 K bb N (4*p+4) (λk=>bC r0 (p+1) k):=bQ.step aS.out aT.out hw (λk o=>o.next) λk o=>bC.this H (by rw[ak.out];exact o);have aW:Hid (bQ w w2 K bb N (4*(p+1)) (λk=>bC r0 (p+1) k)):=by rw[show 4*(p+1)=4*p+4 by omega];exact J
  clear J hw hC;go_wp2_with fail;exact⟨⟨p+1,by omega,by go_num,aW⟩,by simp[intOf];omega⟩
 obtain rfl:n=p:=by omega
 have hl:∀g,(Value.slice a n cap).ownBlock=some g->¬L g:=λg hg o=>by
  rcases E g o with o|o|o
  ·exact av.out g hg o
  ·exact absurd ((aV P.out hg).one (bC.ty D.out o)) (by decide)
  have:=(f_ P.out g hg).2;omega
 have Z:Hid (∀wr,iW B wr L bb (N+4*n) (.slice a n cap)->bQ w wr K bb N (4*n+4) (λk=>(Value.slice a n cap).ownBlock=some k\/∃y∈tl,y.2.ownBlock=some k)):=λwr hw=>bQ.step E F hw (λk o=>by
  obtain⟨r,hr,o⟩:=bC.mem o;have h:=x_ (f:=Prod.fst) hr;rw[ah.out] at h;obtain⟨y,hy,e⟩:=q_.1 h
  exact .inr ⟨y,hy,by rw[e];exact o⟩) λk o=>.inl o
 have hown:=R;obtain⟨M,hM⟩:∃M,M=N+4*n:=⟨_,rfl⟩;rw[<-hM] at Y hN Z;clear hM R G F E ar;obtain⟨i0,hi,aM,aO,aP⟩:=info_parts uJ;obtain⟨i1,hj,a8,aL,a9⟩:=info_parts uI;have ap:(prog.info? 119).map (·.size)=some 4:=by rw[hj];simp[aL]
 obtain⟨fs,yl,ws,ts,X,js,fv,yv,wv,tv,gv,jv,u,aC,aD,aH,aF,ao,aE⟩:=Y;obtain⟨O,b,rfl⟩:=u.g.row.form;have c0:=u.box.c 4 (.slice O X.length b);have HB:=hd u;have a5:X.length<=M:=ao;have a6:Hid (∀g,(Value.slice a n cap).ownBlock=some g->g<B.heap.size):=λg hg=>(Sl.of_row hown).lt hg;have HL:=hd hl;have HO:=hd hown;obtain⟨k,o⟩:∃k,k=X.length:=⟨_,rfl⟩;have W:=hd (o.symm);have ac:k<1099511627776:=by omega
 have aX:Hid (fs.length<=M/\yl.length<=M/\ws.length<=M/\ts.length<=M/\X.length<=M/\js.length<=M):=⟨aC,aD,aH,aF,ao,aE⟩;rw[<-o] at c0 a5;clear u hown hl aa aC aD aH aF ao aE o;go_wp2;go_loopw [6] (λiv wr=>∃i:Nat,i<=n/\iv=I i/\Hid (wr.ownsRow base 119 4 (.slice a n cap) n (rep (dG.mrk k) i++(tl.flatMap cGv).drop (i*4)))/\Hid (ai B wr (λq=>(Value.slice a n cap).ownBlock=some q))) (λi _=>n-(intOf i).toNat)
 case atStart=>exact⟨0,k_ _,rfl,by simpa[rep] using HO,ai.refl _ _⟩
 obtain⟨i,a4,rfl,hm,ho⟩:=hrel;by_cases hlt:i<n
 ·have ay:Hid (i*4+4<=(rep (dG.mrk k) i++(tl.flatMap cGv).drop (i*4)).length):=by
   show i*4+4<=(rep (dG.mrk k) i++(tl.flatMap cGv).drop (i*4)).length;rw[hm.out.1];omega
  obtain⟨g,rfl⟩:∃g,a=some ⟨g,0,none⟩:=by
   rcases hm.out.2 with ⟨_,h⟩|⟨g,Q,aY,h,_⟩
   ·omega
   exact⟨g,by simpa using (Value.slice.inj h).1⟩
  clear c0;go_wp2_with (refine aZ _ rfl _ _ _ rfl base _ 4 _ _ _ _ _ hm.out rfl [Zn,I 0,.bool false,I (-1-(k:Int))] rfl ap ay.out (by simp[Value.oneCell']) ?_;intro w2 hrow2 hg2);refine⟨⟨i+1,by omega,by go_num,?_,ho.out.trans (ai.of_grown (S:=λq=>(Value.slice (some ⟨g,0,none⟩) n cap).ownBlock=some q) hg2 λq h=>h) λ_ h=>.inl h⟩,by simp[intOf];omega⟩;show w2.ownsRow _ _ _ _ _ _;rw[<-jm (m:=dG.mrk k) (size:=4) rfl];exact hrow2
 obtain rfl:i=n:=by omega
 have z:Hid (St B wr bb (λV=>aI fv yv wv tv V jv) L (.slice O k b) (.slice a i cap) dG k (.slice O X.length b) (.slice a i cap) i X):=by
  have h1:=hm.out;have h2:=HO.out.1;rw[Y_ (by omega),T_] at h1;have:=BL.start (bx:=λV=>aI fv yv wv tv V jv) HB.out.g HB.out.box HB.out.kb ho.out HL.out (d:=dG) (k:=k) (Sl.of_row h1);rw[W.out] at this ⊢;exact this
 have q1:Hid (k+1<=maxLen):=fz (by omega);have q2:Hid ((k+1)*32<=140737488355328):=fw (by omega);rw[W.out] at z;have ab:Hid (Sl wr 174 2 (.slice O k b) k (X.flatMap cN)):=by have:=z.out.row;rw[W.out] at this;exact this
 have d0:=z.out.box.c 4 (.slice O k b);clear c0 hm ho;go_wp2_with (at_builtin;refine aG _ rfl _ _ 85 rfl _ i0 _ 2 32 underlying85 hi aM aO aP rfl (by decide) (.slice O k b) _ _ rfl (Sl.mk ab.out (.cells #[.slice a i cap,I k] 174)) ⟨wr.heap.size,0,none⟩ 1 1 [.slice a i cap,I k] rfl rfl (au wr _ _) (by simp[Value.oneCell']) (by decide) q1.out q2.out ?_;intro V1 w3 hS3 hM3;obtain⟨a1,c1,rfl⟩:=hS3.form;have al:=hd hS3;have aj:=hd hM3;have ad:=(z.out.later (af _ _)).append ⟨by decide,by decide⟩ (by rw[W.out];exact al.out) (by rw[W.out];exact aj.out);have e0:w3.cell? ⟨bb,4,none⟩=some (.slice O k b):=ad.1.cell (i:=4) rfl;have f0:=ad.1.fr 4;clear hS3 hM3 ad);have A:Hid (St B (w3.setCell ⟨bb,4,none⟩ (.slice a1 (k+1) c1)) bb (λV=>aI fv yv wv tv V jv) L (.slice O k b) (.slice a i cap) dG k (.slice a1 (k+1) c1) (.slice a i cap) i (X++[((.slice a i cap:Value),i,k)])):=(z.out.later (af _ _)).push (j:=4) ⟨by decide,by decide⟩ (by decide) (by rw[W.out];exact al.out) (by rw[W.out];exact aj.out) ac rfl
 have hL:Hid (L2 B (w3.setCell ⟨bb,4,none⟩ (.slice a1 (k+1) c1)) bb (λV=>aI fv yv wv tv V jv) L (.slice O k b) (.slice a i cap) dG k i (.slice a i cap) 0):=⟨a,cap,a1,c1,X++[((.slice a i cap:Value),i,k)],rfl,by rw[a_,W.out];rfl,by
  have h:=A.out;have e:(X++[((.slice a i cap:Value),i,k)]).length=k+1:=by rw[a_,W.out];rfl
  rw[e];exact h⟩
 generalize w3.setCell ⟨bb,4,none⟩ (.slice a1 (k+1) c1)=w4 at *;clear z ab d0 q1 q2 e0 f0 al aj A;go_loopw [1,7] (λlv iv wr=>∃j:Nat,j<=3/\iv=I j/\Hid (L2 B wr bb (λV=>aI fv yv wv tv V jv) L (.slice O k b) (.slice a i cap) dG k i lv j)) (λ_ i _=>3-(intOf i).toNat)
 case atStart=>exact⟨0,by omega,rfl,hL⟩
 obtain⟨j,ba,rfl,aA⟩:=hrel;obtain⟨a',Q,U,x,C,rfl,T,J⟩:=aA.out;have s:=hd T;rw[T] at J;have an:=hd J;clear J T aA hL;by_cases hlt3:j<3
 ·have q1:Hid (i+j+1<=maxLen):=lp hln hlt3;have q2:Hid ((i+j+1)*48<=140737488355328):=lq (by decide) (ls hn.out hlt3);have q3:Hid (k+j+1+1<=maxLen):=fz (by omega);have q4:Hid ((k+j+1+1)*32<=140737488355328):=fw (by omega)
  go_wp2_with (first
   |(at_builtin;refine aG _ rfl _ _ 115 rfl _ i1 _ 4 48 underlying115 hj a8 aL a9 rfl (by decide) (.slice a' (i+j) Q) _ _ rfl (Sl.mk an.out.list (.cells #[Zn,I 0,.bool false,I (-1-(k:Int))] 119)) ⟨wr.heap.size,0,none⟩ 1 1 [Zn,I 0,.bool false,I (-1-(k:Int))] rfl rfl (au wr _ _) (by simp[Value.oneCell']) (by decide) q1.out q2.out ?_;intro lv1 w3 hS3 hM3;obtain⟨a2,c2,rfl⟩:=hS3.form;have Hm:Hid (St B w3 bb (λV=>aI fv yv wv tv V jv) L (.slice O k b) (.slice a i cap) dG k (.slice U (k+j+1) x) (.slice a2 (i+j+1) c2) (i+j+1) C):=(an.out.later (af _ _)).more (by decide) (by decide) (λ_=>rfl) hS3 hM3;have d3:w3.cell? ⟨bb,4,none⟩=some (.slice U (k+j+1) x):=Hm.out.box.cell (i:=4) rfl;have am:Hid (Sl w3 174 2 (.slice U (k+j+1) x) (k+j+1) (C.flatMap cN)):=(by have:=Hm.out.row;rw[s.out] at this;exact this);clear hS3 hM3)
   |(at_builtin;refine aG _ rfl _ _ 85 rfl _ i0 _ 2 32 underlying85 hi aM aO aP rfl (by decide) (.slice U (k+j+1) x) _ _ rfl (Sl.mk am.out (.cells #[.slice a2 (i+j+1) c2,I k] 174)) ⟨w3.heap.size,0,none⟩ 1 1 [.slice a2 (i+j+1) c2,I k] rfl rfl (au w3 _ _) (by simp[Value.oneCell']) (by decide) q3.out q4.out ?_;intro V2 w4 hS4 hM4;obtain⟨a3,c3,rfl⟩:=hS4.form;have ax:=hd hS4;have aw:=hd hM4;have ae:=(Hm.out.later (af _ _)).append ⟨by decide,by decide⟩ (by rw[s.out];exact ax.out) (by rw[s.out];exact aw.out);have e4:w4.cell? ⟨bb,4,none⟩=some (.slice U (k+j+1) x):=ae.1.cell (i:=4) rfl;have f4:=ae.1.fr 4;clear hS4 hM4 ae))
  have A:St B (w4.setCell ⟨bb,4,none⟩ (.slice a3 (k+j+1+1) c3)) bb (λV=>aI fv yv wv tv V jv) L (.slice O k b) (.slice a i cap) dG k (.slice a3 (k+j+1+1) c3) (.slice a2 (i+j+1) c2) (i+j+1) (C++[((.slice a2 (i+j+1) c2:Value),i+j+1,k)]):=(Hm.out.later (af _ _)).push (j:=4) ⟨by decide,by decide⟩ (by decide) (by rw[s.out];exact ax.out) (by rw[s.out];exact aw.out) ac rfl;refine⟨⟨j+1,by omega,by go_num,⟨a2,c2,a3,c3,C++[((.slice a2 (i+j+1) c2:Value),i+j+1,k)],rfl,by rw[a_,s.out];rfl,?_⟩⟩,by simp[intOf];omega⟩;have e:(C++[((.slice a2 (i+j+1) c2:Value),i+j+1,k)]).length=k+j+1+1:=by rw[a_,s.out];rfl
  rw[e];exact A
 obtain rfl:j=3:=by omega
 go_wp2;refine be_ ⟨rfl,?_⟩;have G:=an.out;have u:=HB.out;rw[W.out] at u;have bc:=aX.out;have a7:C.length<=M+4:=by rw[s.out];omega
 have ap:=G.only.size
 have a0:iW B wr L bb M (.slice a i cap):=by
  refine⟨KL L (.slice a i cap) B wr,⟨fs,yl,ws,ts,C,js,_,_,_,_,_,_,⟨G.box,.inl u.kb,KL.lt u.kl a6.out ap,G.other u.f HL.out u.g.row u.box (by decide),G.other u.i HL.out u.g.row u.box (by decide),G.other u.q HL.out u.g.row u.box (by decide),G.other u.t HL.out u.g.row u.box (by decide),G.done u.g.fv,G.other u.j HL.out u.g.row u.box (by decide)⟩,(by omega),(by omega),(by omega),(by omega),a7,(by omega)⟩,KL.sub,G.only.mono λq hq=>?_⟩;rcases hq with h|h|h
  ·rw[h];exact .inl u.kb
  ·exact .inl (u.g.fv q h)
  exact .inr h
 exact Z.out wr a0
theorem Eq (tl:List Jv)(r0:List (Value×Nat×List Value))(r1:List (Value×Nat×List Value))(a:Option Addr)(n cap bb base N:Nat)(K:Nat->Prop)(w:World)(hB:cq w K bb N)(hN:N+8*n<549755813000)(htl:n=tl.length)(hown:w.ownsRow base 124 4 (.slice a n cap) n (tl.flatMap cJv))(hl:∀g,(Value.slice a n cap).ownBlock=some g->¬K g)(h0:Inn w K base 3 1 r0)(e0:r0.map Prod.fst=tl.map λy=>y.2.1)(h1:Inn w K base 80 2 r1)(e1:r1.map Prod.fst=tl.map λy=>y.2.2)(hn:Hid ((n+100)*64<=140737488355328))(hln:n<8796093022208):
 Calls prog 142 #[Px bb,.slice a n cap] w λe w'=>e=.returned (.tuple #[])/\bQ w w' K bb N (8*n+4) (λk=>(Value.slice a n cap).ownBlock=some k\/∃y∈tl,y.2.1.ownBlock=some k\/y.2.2.ownBlock=some k):=by
 have aK:=hd hB;have HT:=hd htl;have x:=hd hown;have ap:=hd hl;have C:=hd h0;have an:=hd e0;have D:=hd h1;have ao:=hd e1;clear hB htl hown hl h0 e0 h1 e1
 have bk:Hid (r0.length=n):=by
  have h:=congrArg List.length an.out;rw[d_,d_] at h;exact h.trans HT.out.symm
 have bl:Hid (r1.length=n):=by
  have h:=congrArg List.length ao.out;rw[d_,d_] at h;exact h.trans HT.out.symm
 have ah:Hid (∀(p:Nat) (wr:World) (_:Unit),ai w wr (λk=>K k\/(bC r0 p k\/bC r1 p k))->wr.ownsRow base 124 4 (.slice a n cap) n (tl.flatMap cJv)):=λp wr _ hO=>aN x.out λg hg=>hO.block g (f_ x.out g hg).2 λb=>by
  rcases b with b|(b|b)
  ·exact ap.out g hg b
  ·exact absurd ((aV x.out hg).one (bC.ty C.out b)) (by decide)
  exact absurd ((aV x.out hg).one (bC.ty D.out b)) (by decide)
 go_enter func142,ntmps142;go_wp2_with fail;go_loopw [4] (λiv wr=>∃p:Nat,p<=n/\iv=I p/\Hid (bQ w wr K bb N (8*p) (λk=>bC r0 p k\/bC r1 p k))) (λi _=>n-(intOf i).toNat)
 case atStart=>exact⟨0,k_ _,rfl,bQ.start aK.out _⟩
 obtain⟨p,bq,rfl,O⟩:=hrel;obtain⟨F,rfl⟩:∃F,F=wr:=⟨_,rfl⟩;obtain⟨T,ab,H,J⟩:=O.out;have L:=ah.out p F () J;by_cases hlt:p<n
 ·have ad:p<tl.length:=by have:=HT.out;omega
  obtain⟨g,rfl⟩:∃g,a=some ⟨g,0,none⟩:=by
   rcases L.2 with ⟨_,h⟩|⟨g,X,bo,h,_⟩
   ·omega
   exact⟨g,by simpa using (Value.slice.inj h).1⟩
  have P:p<r0.length:=by have:=bk.out;omega
  have a5:r0[p].1=tl[p].2.1:=by
   have h:=congrArg (λl=>l[p]?) an.out;simpa[P,ad] using h
  have aR:(tl.flatMap cJv)[p*4+2]? =some r0[p].1:=by
   have h:=aq cJv 4 (λ_=>rfl) tl p 2 ad (by decide);rw[a5];exact h
  obtain⟨bc,bd,A⟩:∃ia ic,r0[p].1=.slice ia r0[p].2.1 ic:=ag (C.out.row _ (i_ P));have Q:p<r1.length:=by have:=bl.out;omega
  have a6:r1[p].1=tl[p].2.2:=by
   have h:=congrArg (λl=>l[p]?) ao.out;simpa[Q,ad] using h
  have aB:(tl.flatMap cJv)[p*4+3]? =some r1[p].1:=by
   have h:=aq cJv 4 (λ_=>rfl) tl p 3 ad (by decide);rw[a6];exact h
  obtain⟨aH,aJ,aE⟩:∃ia ic,r1[p].1=.slice ia r1[p].2.1 ic:=ag (D.out.row _ (i_ Q))
  have d0:F.cell? ⟨g,p*4+2,none⟩=some (.slice bc r0[p].2.1 bd):=by
   have h:=World.ownsRow.cells L (g:=g) rfl (p*4+2) _ aR;rw[bE,O_,A] at h;exact h
  have d1:F.cell? ⟨g,p*4+3,none⟩=some (.slice aH r1[p].2.1 aJ):=by
   have h:=World.ownsRow.cells L (g:=g) rfl (p*4+3) _ aB;rw[bE,O_,aE] at h;exact h
  have aw:=hd A;have aa:=hd aE;have bf:=cZ aB;clear aR a5 A aB a6 aE;obtain⟨U,b⟩:=C.out.at P J λk b=>b.imp id λh=>⟨_,bC.ty D.out h,by decide⟩;rw[aw.out] at U b;have hC:=C7 _ bc _ bd bb base (N+8*p) T F ab (by omega) U (b T H) (jS (C.out.sm _ (i_ P))) (by have:=C.out.sm _ (i_ P);omega);have bg:=cZ H;have bi:=cZ J;clear U b L O ab H J;obtain⟨m0,aT⟩:∃m0,m0=r0[p].2.1:=⟨_,rfl⟩;rw[<-aT] at hC d0 aw;obtain⟨m1,aC⟩:∃m1,m1=r1[p].2.1:=⟨_,rfl⟩;rw[<-aC] at d1 aa;have ar:=cZ aC;clear aT aC;go_wp2_with fail;go_fit hC;rintro e w2 ⟨rfl,hw⟩;have E:bQ w w2 K bb N (8*p+4) (λk=>bC r0 (p+1) k\/bC r1 p k):=bQ.step bg.out bi.out hw (λk b=>b.imp bC.next id) λk b=>.inl (bC.this P (by rw[aw.out];exact b));obtain⟨K2,aP,aA,ac⟩:=E
  have e1:w2.cell? ⟨g,p*4+3,none⟩=some (.slice aH m1 aJ):=by
   have a4:w2.ownsRow base 124 4 (.slice (some ⟨g,0,none⟩) n cap) n (tl.flatMap cJv):=aN x.out λq hq=>ac.block q (f_ x.out q hq).2 λb=>by
    rcases b with b|(b|b)
    ·exact ap.out q hq b
    ·exact absurd ((aV x.out hq).one (bC.ty C.out b)) (by decide)
    exact absurd ((aV x.out hq).one (bC.ty D.out b)) (by decide)
   have h:=World.ownsRow.cells a4 (g:=g) rfl (p*4+3) _ bf.out;rw[bE,O_,aa.out] at h;exact h
  obtain⟨U,b⟩:=D.out.at Q ac λk b=>b.symm.imp id λh=>⟨_,bC.ty C.out h,by decide⟩;rw[aa.out] at U b;rw[<-ar.out] at U;have aQ:=El _ aH m1 aJ bb base (N+(8*p+4)) K2 w2 aP (by omega) U (b K2 aA) (jS (by rw[ar.out];exact D.out.sm _ (i_ Q))) (by have:=D.out.sm _ (i_ Q);rw[<-ar.out] at this;omega);have bh:=cZ aA;have bj:=cZ ac;clear U b aP aA ac hC hw d0 d1;go_wp2_with fail;go_fit aQ;rintro e R ⟨rfl,hw⟩;have E:bQ w R K bb N (8*p+4+4) (λk=>bC r0 (p+1) k\/bC r1 (p+1) k):=bQ.step bh.out bj.out hw (λk b=>b.imp id bC.next) λk b=>.inr (bC.this Q (by rw[aa.out];exact b));have bm:Hid (bQ w R K bb N (8*(p+1)) (λk=>bC r0 (p+1) k\/bC r1 (p+1) k)):=by rw[show 8*(p+1)=8*p+4+4 by omega];exact E
  clear E hw aQ;go_wp2_with fail;exact⟨⟨p+1,by omega,by go_num,bm⟩,by simp[intOf];omega⟩
 obtain rfl:n=p:=by omega
 have hl:∀g,(Value.slice a n cap).ownBlock=some g->¬T g:=λg hg b=>by
  rcases H g b with b|(b|b)|b
  ·exact ap.out g hg b
  ·exact absurd ((aV x.out hg).one (bC.ty C.out b)) (by decide)
  ·exact absurd ((aV x.out hg).one (bC.ty D.out b)) (by decide)
  have:=(f_ x.out g hg).2;omega
 have ae:Hid (∀wr,iW F wr T bb (N+8*n) (.slice a n cap)->bQ w wr K bb N (8*n+4) (λk=>(Value.slice a n cap).ownBlock=some k\/∃y∈tl,y.2.1.ownBlock=some k\/y.2.2.ownBlock=some k)):=λwr hw=>bQ.step H J hw (λk b=>by
  rcases b with b|b
  ·obtain⟨r,U,b⟩:=bC.mem b;have h:=x_ (f:=Prod.fst) U;rw[an.out] at h;obtain⟨y,hy,e⟩:=q_.1 h;exact .inr ⟨y,hy,.inl (by rw[e];exact b)⟩
  obtain⟨r,U,b⟩:=bC.mem b;have h:=x_ (f:=Prod.fst) U;rw[ao.out] at h;obtain⟨y,hy,e⟩:=q_.1 h
  exact .inr ⟨y,hy,.inr (by rw[e];exact b)⟩) λk b=>.inl b
 have hown:=L;obtain⟨M,hM⟩:∃M,M=N+8*n:=⟨_,rfl⟩;rw[<-hM] at ab hN ae;clear hM L O J H aK;obtain⟨i0,hi,a8,a9,ba⟩:=info_parts uL;obtain⟨i1,hj,bu,a7,bv⟩:=info_parts uK;have aF:(prog.info? 124).map (·.size)=some 4:=by rw[hj];simp[a7]
 obtain⟨fs,yl,ws,ts,gs,js,fv,yv,wv,tv,gv,jv,u,aU,aX,a0,aY,aW,aD⟩:=ab;obtain⟨W,o,rfl⟩:=u.j.row.form;have c0:=u.box.c 5 (.slice W js.length o);have HB:=hd u;have br:js.length<=M:=aD;have bs:Hid (∀g,(Value.slice a n cap).ownBlock=some g->g<F.heap.size):=λg hg=>(Sl.of_row hown).lt hg;have HL:=hd hl;have HO:=hd hown;obtain⟨k,b⟩:∃k,k=js.length:=⟨_,rfl⟩;have HK:=hd (b.symm);have ak:k<1099511627776:=by omega
 have bn:Hid (fs.length<=M/\yl.length<=M/\ws.length<=M/\ts.length<=M/\gs.length<=M/\js.length<=M):=⟨aU,aX,a0,aY,aW,aD⟩;rw[<-b] at c0 br;clear u hown hl ah aU aX a0 aY aW aD b;go_wp2;go_loopw [6] (λiv wr=>∃i:Nat,i<=n/\iv=I i/\Hid (wr.ownsRow base 124 4 (.slice a n cap) n (rep (dJ.mrk k) i++(tl.flatMap cJv).drop (i*4)))/\Hid (ai F wr (λq=>(Value.slice a n cap).ownBlock=some q))) (λi _=>n-(intOf i).toNat)
 case atStart=>exact⟨0,k_ _,rfl,by simpa[rep] using HO,ai.refl _ _⟩
 obtain⟨i,bq,rfl,hm,ho⟩:=hrel;by_cases hlt:i<n
 ·have aO:Hid (i*4+4<=(rep (dJ.mrk k) i++(tl.flatMap cJv).drop (i*4)).length):=by
   show i*4+4<=(rep (dJ.mrk k) i++(tl.flatMap cJv).drop (i*4)).length;rw[hm.out.1];omega
  obtain⟨g,rfl⟩:∃g,a=some ⟨g,0,none⟩:=by
   rcases hm.out.2 with ⟨_,h⟩|⟨g,X,bo,h,_⟩
   ·omega
   exact⟨g,by simpa using (Value.slice.inj h).1⟩
  clear c0;go_wp2_with (refine aZ _ rfl _ _ _ rfl base _ 4 _ _ _ _ _ hm.out rfl [I (-1-(k:Int)),I 0,Zn,Zn] rfl aF aO.out (by simp[Value.oneCell']) ?_;intro w2 hrow2 hg2);refine⟨⟨i+1,by omega,by go_num,?_,ho.out.trans (ai.of_grown (S:=λq=>(Value.slice (some ⟨g,0,none⟩) n cap).ownBlock=some q) hg2 λq h=>h) λ_ h=>.inl h⟩,by simp[intOf];omega⟩;show w2.ownsRow _ _ _ _ _ _;rw[<-jm (m:=dJ.mrk k) (size:=4) rfl];exact hrow2
 obtain rfl:i=n:=by omega
 have A:Hid (St F wr bb (λV=>aI fv yv wv tv gv V) T (.slice W k o) (.slice a i cap) dJ k (.slice W js.length o) (.slice a i cap) i js):=by
  have h1:=hm.out;have h2:=HO.out.1;rw[Y_ (by omega),T_] at h1;have:=BL.start (bx:=λV=>aI fv yv wv tv gv V) HB.out.j HB.out.box HB.out.kb ho.out HL.out (d:=dJ) (k:=k) (Sl.of_row h1);rw[HK.out] at this ⊢;exact this
 have q1:Hid (k+1<=maxLen):=fz (by omega);have q2:Hid ((k+1)*32<=140737488355328):=fw (by omega);rw[HK.out] at A;have aj:Hid (Sl wr 176 2 (.slice W k o) k (js.flatMap cN)):=by have:=A.out.row;rw[HK.out] at this;exact this
 have d0:=A.out.box.c 5 (.slice W k o);clear c0 hm ho;go_wp2_with (at_builtin;refine aG _ rfl _ _ 86 rfl _ i0 _ 2 32 underlying86 hi a8 a9 ba rfl (by decide) (.slice W k o) _ _ rfl (Sl.mk aj.out (.cells #[.slice a i cap,I k] 176)) ⟨wr.heap.size,0,none⟩ 1 1 [.slice a i cap,I k] rfl rfl (au wr _ _) (by simp[Value.oneCell']) (by decide) q1.out q2.out ?_;intro V1 R hS3 hM3;obtain⟨a1,c1,rfl⟩:=hS3.form;have ax:=hd hS3;have av:=hd hM3;have al:=(A.out.later (af _ _)).append ⟨by decide,by decide⟩ (by rw[HK.out];exact ax.out) (by rw[HK.out];exact av.out);have e0:R.cell? ⟨bb,5,none⟩=some (.slice W k o):=al.1.cell (i:=5) rfl;have f0:=al.1.fr 5;clear hS3 hM3 al);have B:Hid (St F (R.setCell ⟨bb,5,none⟩ (.slice a1 (k+1) c1)) bb (λV=>aI fv yv wv tv gv V) T (.slice W k o) (.slice a i cap) dJ k (.slice a1 (k+1) c1) (.slice a i cap) i (js++[((.slice a i cap:Value),i,k)])):=(A.out.later (af _ _)).push (j:=5) ⟨by decide,by decide⟩ (by decide) (by rw[HK.out];exact ax.out) (by rw[HK.out];exact av.out) ak rfl
 have hL:Hid (L2 F (R.setCell ⟨bb,5,none⟩ (.slice a1 (k+1) c1)) bb (λV=>aI fv yv wv tv gv V) T (.slice W k o) (.slice a i cap) dJ k i (.slice a i cap) 0):=⟨a,cap,a1,c1,js++[((.slice a i cap:Value),i,k)],rfl,by rw[a_,HK.out];rfl,by
  have h:=B.out;have e:(js++[((.slice a i cap:Value),i,k)]).length=k+1:=by rw[a_,HK.out];rfl
  rw[e];exact h⟩
 generalize R.setCell ⟨bb,5,none⟩ (.slice a1 (k+1) c1)=w4 at *;clear A aj d0 q1 q2 e0 f0 ax av B;go_loopw [1,7] (λlv iv wr=>∃j:Nat,j<=3/\iv=I j/\Hid (L2 F wr bb (λV=>aI fv yv wv tv gv V) T (.slice W k o) (.slice a i cap) dJ k i lv j)) (λ_ i _=>3-(intOf i).toNat)
 case atStart=>exact⟨0,by omega,rfl,hL⟩
 obtain⟨j,bw,rfl,aS⟩:=hrel;obtain⟨a',X,Z,z,G,rfl,Y,E⟩:=aS.out;have s:=hd Y;rw[Y] at E;have az:=hd E;clear E Y aS hL;by_cases hlt3:j<3
 ·have q1:Hid (i+j+1<=maxLen):=lp hln hlt3;have q2:Hid ((i+j+1)*64<=140737488355328):=lq (by decide) (ls hn.out hlt3);have q3:Hid (k+j+1+1<=maxLen):=fz (by omega);have q4:Hid ((k+j+1+1)*32<=140737488355328):=fw (by omega)
  go_wp2_with (first
   |(at_builtin;refine aG _ rfl _ _ 120 rfl _ i1 _ 4 64 underlying120 hj bu a7 bv rfl (by decide) (.slice a' (i+j) X) _ _ rfl (Sl.mk az.out.list (.cells #[I (-1-(k:Int)),I 0,Zn,Zn] 124)) ⟨wr.heap.size,0,none⟩ 1 1 [I (-1-(k:Int)),I 0,Zn,Zn] rfl rfl (au wr _ _) (by simp[Value.oneCell']) (by decide) q1.out q2.out ?_;intro lv1 R hS3 hM3;obtain⟨a2,c2,rfl⟩:=hS3.form;have Hm:Hid (St F R bb (λV=>aI fv yv wv tv gv V) T (.slice W k o) (.slice a i cap) dJ k (.slice Z (k+j+1) z) (.slice a2 (i+j+1) c2) (i+j+1) G):=(az.out.later (af _ _)).more (by decide) (by decide) (λ_=>rfl) hS3 hM3;have d3:R.cell? ⟨bb,5,none⟩=some (.slice Z (k+j+1) z):=Hm.out.box.cell (i:=5) rfl;have ay:Hid (Sl R 176 2 (.slice Z (k+j+1) z) (k+j+1) (G.flatMap cN)):=(by have:=Hm.out.row;rw[s.out] at this;exact this);clear hS3 hM3)
   |(at_builtin;refine aG _ rfl _ _ 86 rfl _ i0 _ 2 32 underlying86 hi a8 a9 ba rfl (by decide) (.slice Z (k+j+1) z) _ _ rfl (Sl.mk ay.out (.cells #[.slice a2 (i+j+1) c2,I k] 176)) ⟨R.heap.size,0,none⟩ 1 1 [.slice a2 (i+j+1) c2,I k] rfl rfl (au R _ _) (by simp[Value.oneCell']) (by decide) q3.out q4.out ?_;intro V2 w4 hS4 hM4;obtain⟨a3,c3,rfl⟩:=hS4.form;have aM:=hd hS4;have aL:=hd hM4;have am:=(Hm.out.later (af _ _)).append ⟨by decide,by decide⟩ (by rw[s.out];exact aM.out) (by rw[s.out];exact aL.out);have e4:w4.cell? ⟨bb,5,none⟩=some (.slice Z (k+j+1) z):=am.1.cell (i:=5) rfl;have f4:=am.1.fr 5;clear hS4 hM4 am))
  have B:St F (w4.setCell ⟨bb,5,none⟩ (.slice a3 (k+j+1+1) c3)) bb (λV=>aI fv yv wv tv gv V) T (.slice W k o) (.slice a i cap) dJ k (.slice a3 (k+j+1+1) c3) (.slice a2 (i+j+1) c2) (i+j+1) (G++[((.slice a2 (i+j+1) c2:Value),i+j+1,k)]):=(Hm.out.later (af _ _)).push (j:=5) ⟨by decide,by decide⟩ (by decide) (by rw[s.out];exact aM.out) (by rw[s.out];exact aL.out) ak rfl;refine⟨⟨j+1,by omega,by go_num,⟨a2,c2,a3,c3,G++[((.slice a2 (i+j+1) c2:Value),i+j+1,k)],rfl,by rw[a_,s.out];rfl,?_⟩⟩,by simp[intOf];omega⟩;have e:(G++[((.slice a2 (i+j+1) c2:Value),i+j+1,k)]).length=k+j+1+1:=by rw[a_,s.out];rfl
  rw[e];exact B
 obtain rfl:j=3:=by omega
 go_wp2;refine be_ ⟨rfl,?_⟩;have O:=az.out;have u:=HB.out;rw[HK.out] at u;have bz:=bn.out;have bt:G.length<=M+4:=by rw[s.out];omega
 have aF:=O.only.size
 have bp:iW F wr T bb M (.slice a i cap):=by
  refine⟨KL T (.slice a i cap) F wr,⟨fs,yl,ws,ts,gs,G,_,_,_,_,_,_,⟨O.box,.inl u.kb,KL.lt u.kl bs.out aF,O.other u.f HL.out u.j.row u.box (by decide),O.other u.i HL.out u.j.row u.box (by decide),O.other u.q HL.out u.j.row u.box (by decide),O.other u.t HL.out u.j.row u.box (by decide),O.other u.g HL.out u.j.row u.box (by decide),O.done u.j.fv⟩,(by omega),(by omega),(by omega),(by omega),(by omega),bt⟩,KL.sub,O.only.mono λq hq=>?_⟩;rcases hq with h|h|h
  ·rw[h];exact .inl u.kb
  ·exact .inl (u.j.fv q h)
  exact .inr h
 exact ae.out wr bp
end
end Go.Proofs.YtgamgomepdfgdaaGreat
