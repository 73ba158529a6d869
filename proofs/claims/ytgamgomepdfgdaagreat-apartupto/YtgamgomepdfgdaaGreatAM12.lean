import Derived.Test.YtgamgomepdfgdaaGreatAM07
import Derived.Test.YtgamgomepdfgdaaGreatAM10
import Derived.Test.YtgamgomepdfgdaaGreatAM11
set_option maxRecDepth 100000
set_option maxHeartbeats 8000000
namespace Go.Proofs.YtgamgomepdfgdaaGreat
open Go.RowKit Go.Proofs.Tryz
section
open Go.Lib
variable{c:Cfg}{q:List Pw}{mb n0 sb yb:Nat}{S:Nat->Prop}{s:Ts}{ov qv:Value}{w w':World}{x:Xt}
theorem yo:(prog.info? 273).map (λi=>(i.zero,i.size,i.bytes))=some (some (.agg #[I 0,Zn]),2,32):=by kernel_rfl
def AR (y:Pw):Cw:=(y.1.cg,y.2)
def upP (y:Pw):Pw:=(y.1.up,y.2)
theorem tE (yb:Nat)(cs:Array Value)(a:Option Addr)(cap:Nat)(w:World)(hB:Bx w yb 201 cs)(h9:cs[9]? =some (.slice a 0 cap)):
 c_ 207 #[ptr yb] w λe w'=>e=.returned (.bool false)/\w'=w:=by
 have b:=hB.cell h9;clear hB h9;unfold ptr;go_enter func207,ntmps207;go_wp2_with fail;go_ret;exact⟨rfl,rfl⟩
theorem jH (w:World)(o:Obj)(cs:List Value)(t:TypeId):∀j u,cs[j]? =some u->((w.alloc o).alloc (.cells cs.toArray t)).cell? ((⟨w.heap.size+1,0,none⟩:Addr).add j)=some u:=by
 have e:w.heap.size+1=(w.alloc o).heap.size:=by simp
 rw[e];exact au (w.alloc o) cs t
theorem q3' (h:Bl w w')(o:Obj):w.heap.size<=(w'.alloc o).heap.size:=by
 have:=h.size;simp;omega
theorem vt (age:Nat):∀(L:List Pw) (m:Nat) (h:m<L.length),(L.set m (upP L[m])).flatMap (cP age)=(L.flatMap (cP age)).set (m*6+2) (I ((L[m].1.passed:Int)+1))
 |x::L,0,_=>by simp[cP,upP,Ch.up]
 |x::L,m+1,h=>by
  have ih:=vt age L m (by simpa using h)
  rw[List.set_cons_succ,F_,F_,List.getElem_cons_succ,ih,List.set_append_right _ _ (by simp[cP];omega)]
  congr 2
  simp[cP];omega
def gy (l:List Pw)(m:Nat):List Pw:=(l.take m).map upP++l.drop m
theorem nc (l:List Pw)(m:Nat):(gy l m).length=l.length:=by
 simp[gy];omega
theorem kd (l:List Pw)(m:Nat)(h:m<l.length):(gy l m)[m]'(by rw[nc];exact h)=l[m]:=by
 simp only[gy];rw[List.getElem_append_right (by simp;omega)];simp[U_ (Nat.le_of_lt h)]
theorem oZ (l:List Pw)(m:Nat)(h:m<l.length):(gy l m).set m (upP l[m])=gy l (m+1):=by
 have a:((l.take m).map upP).length=m:=by simp;omega
 show ((l.take m).map upP++l.drop m).set m (upP l[m])=(l.take (m+1)).map upP++l.drop (m+1);rw[List.set_append_right _ _ (by omega),a,Nat.sub_self,M_ h,List.set_cons_zero,g_ h,w_,A_];rfl
theorem rp (l:List Pw)(m:Nat)(h:l.length<=m):gy l m=l.map upP:=by
 simp[gy,m_ h,List.drop_eq_nil_of_le h]
theorem DB (h:bI w S yb mb n0 c s q sb qv ov x)(hI:s.Inv c)(hc:c.Ok)(hi:s.ids.length<1048576000)(hs:s.segs=[])(hq:s.queue≠[]):
 c_ 207 #[ptr yb] w λe w'=>e=.returned (.bool true)/\(∃q' qv' tv',bI w' (aE S w) yb mb n0 c (s.pick c) q' sb qv' ov {x with tv:=tv'})/\ak w w' S [201,210]:=by
 obtain⟨i0,a2,a7,a8,a9⟩:=info_parts yo;obtain⟨q0,hp,a4,hd,aQ,an⟩:=h.ranks hI hc;obtain⟨H,hn⟩:=h.small hI hc hi;obtain⟨qa,n,rfl⟩:=h.que.row.form
 have E:0<q.length:=by
  rw[h.qlen];exact S_.2 hq
 have hR:=vq c.age ⟨hc.2.1.1,by have:=hc.2.1.2;omega⟩ q _ w h.que.row H hn q0 hp hd;have HY:Hid (bI w S yb mb n0 c s q sb (.slice qa q.length n) ov x):=h;have HR:Hid ((rkG (cw c.age) q0 1000).map Prod.fst=s.ranked c/\(rkG (cw c.age) q0 1000).Perm q):=⟨aQ,an⟩;have f:Hid ((rkG (cw c.age) q0 1000).length=q.length):=an.length_eq;have c2:=h.box.c 2 (I c.batch);have c9:=h.box.c 9 (.slice qa q.length n);have bc:=hc.2.2.1.1;have bd:=hc.2.2.1.2;have bg:=h.box.lt;have bb:¬((q.length:Int)=0):=by omega
 have bh:((q.length:Int)==0)=false:=beq_false_of_ne bb;obtain⟨k,Q⟩:∃k,k=min c.batch q.length:=⟨_,rfl⟩
 have t:min (c.batch:Int) (q.length:Int)=(k:Int):=by
  rw[Q];by_cases hle:c.batch<=q.length
  ·rw[U_ hle,Int.min_eq_left (by omega)]
  rw[Nat.min_eq_right (by omega),Int.min_eq_right (by omega)]
 have aP:k<=q.length:=by rw[Q];exact Nat.min_le_right _ _
 have a3:0<k:=by rw[Q];exact Nat.lt_min.2 ⟨by omega,E⟩
 have HK:Hid (k=min c.batch q.length):=Q;generalize rkG (cw c.age) q0 1000=r at *;clear h hp a4 hd aQ an H Q;unfold ptr;go_enter func207,ntmps207;go_wp2_with fail;go_fit hR;rintro e w1 ⟨⟨v1,rfl,ao,aT⟩,C⟩;obtain⟨d,l,a,rfl,aZ,a0⟩:=ao.addr E;have aO:w.heap.size<=d:=aT E d rfl;have ap:=hd C;have az:=hd ao;have d2:=ae C c2;clear hR ao aT C c2 c9;go_wp2_with fail;have aR:Hid (∀y∈r,bD y.2):=λy hy=>HY.out.sl y (HR.out.2.mem_iff.1 hy);have Z:r.length=q.length:=f.out;clear d2 t;go_loopw [5,32] (λlv iv wr=>∃j:Nat,j<=k/\iv=I j/\Hid (wr.ownsRow w1.heap.size 273 2 lv j (((r.take j).map AR).flatMap cC))/\Hid (Bl w1 wr)) (λ_ i _=>k-(intOf i).toNat)
 case atStart=>exact⟨0,k_ _,rfl,B_ _ _ _ _,n_ _ _⟩
 obtain⟨j,hj,rfl,hr,X⟩:=hrel;by_cases hlj:j<k
 ·have al:j<r.length:=by omega
  have kk:∀i (u:Value),i<6->(cP c.age r[j])[i]? =some u->wr.cell? ⟨d,l+j*6+i,none⟩=some u:=λi u hi hu=>by
   have:=az.out.cell (j:=j*6+i) (u:=u) (by rw[aq (cP c.age) 6 (λ_=>rfl) r j i al hi];exact hu);rw[J_];exact ae X.out this
  obtain⟨ea,en,ec,he⟩:=aR.out _ (i_ al);have d0:wr.cell? ⟨d,l+j*6,none⟩=some (I r[j].1.id):=kk 0 _ (by decide) rfl;have d1:=kk 1 (I r[j].1.lane) (by decide) rfl;have d2:=kk 2 (I r[j].1.passed) (by decide) rfl;have d3:=kk 3 (I c.age) (by decide) rfl;have d4:=kk 4 (I r[j].1.ord) (by decide) rfl;have d5:=kk 5 (.slice ea en ec) (by decide) (by rw[<-he];rfl)
  have HW:Hid (((r.take (j+1)).map AR).flatMap cC=((r.take j).map AR).flatMap cC++[I r[j].1.id,.slice ea en ec]):=by
   show _=_;rw[g_ al,w_,r_];simp[cC,AR,Ch.cg,he]
  generalize r[j].1.id=x0 at *;generalize r[j].1.lane=x1 at *;generalize r[j].1.passed=x2 at *;generalize r[j].1.ord=x4 at *;clear he kk Z;have q1:Hid (j+1<=maxLen):=by show _<=_;unfold maxLen;omega
  have q2:Hid ((j+1)*32<=140737488355328):=by show _<=_;omega
  have q3:Hid (∀o o',w1.heap.size<=((wr.alloc o).alloc o').heap.size):=λo o'=>by
   have:=X.out.size;show w1.heap.size<=_;simp;omega
  go_wp2_with (at_builtin;refine wpList_append_own_at _ rfl (.tmp 36) (.tmp 43) _ rfl w1.heap.size _ i0 _ 2 32 underlying237 a2 a7 a8 a9 rfl (by decide) u5 _ _ rfl (p_ (p_ hr.out _) _) ⟨wr.heap.size+1,0,none⟩ 1 1 [I x0,.slice ea en ec] rfl rfl (jH wr _ _ _) (by simp[Value.oneCell']) q1.out q2.out (q3.out _ _) ?_;intro v3 w3 hown3 hg3 hnil3 hloc3);refine⟨⟨j+1,hlj,by go_num,?_,?_⟩,by simp[intOf];omega⟩
  ·show w3.ownsRow _ _ _ _ _ _;rw[HW.out];exact hown3
  exact((X.out.alloc X.out.size _).alloc (q3' X.out _) _).grown hg3 (q3.out _ _) (λi hi=>(f_ hr.out i hi).1)
 obtain rfl:j=k:=by omega
 obtain⟨v,A,rfl⟩:=fL hr.out;have U:Hid (Sl wr 273 2 (.slice v j A) j (((r.take j).map AR).flatMap cC)):=Sl.of_row hr.out;have ax:Hid (∀g,(Value.slice v j A).ownBlock=some g->w1.heap.size<=g):=λg hg=>(f_ hr.out g hg).1;have B:Hid (Bl w wr):=aK ap.out X.out;obtain⟨tl,zs,b⟩:=HY.out.rest
 have ba:zs=[]:=by
  have:=b.train.snd;rw[hs] at this;exact List.map_eq_nil_iff.1 this
 subst ba;have J:Bx (wr.alloc (.cells (cz (.slice v j A) 0 0 (.pointer none)) 240)) yb 201 (aA c x s.begun s.now (.slice qa q.length n) sb s.outs.length ov):=(HY.out.box.later B.out).mk _;have M:Sl (wr.alloc (.cells (cz (.slice v j A) 0 0 (.pointer none)) 240)) 210 1 x.tv 0 []:=(b.train.row.later B.out).mk _;have hA:=Ck yb 11 0 201 (some ⟨wr.heap.size,0,none⟩) x.tv _ [] _ J rfl M (M.ne J (by decide)) (by omega);have av:=hd J;have aC:=hd M;have aD:Hid (Bx (wr.alloc (.cells (cz (.slice v j A) 0 0 (.pointer none)) 240)) wr.heap.size 240 (cz (.slice v j A) 0 0 (.pointer none))):=Bx.new _ _ _;have aa:Hid (Bl w (wr.alloc (.cells (cz (.slice v j A) 0 0 (.pointer none)) 240))):=aK B.out (af _ _);have T:Hid (Bl w1 (wr.alloc (.cells (cz (.slice v j A) 0 0 (.pointer none)) 240))):=aK X.out (af _ _);have ay:Hid (Sl (wr.alloc (.cells (cz (.slice v j A) 0 0 (.pointer none)) 240)) 273 2 (.slice v j A) j (((r.take j).map AR).flatMap cC)):=U.out.mk _;unfold cz at hA av aC aD aa T ay;clear J M hr b Z;go_wp2_with fail;generalize wr.alloc (.cells #[.slice v j A,I 0,I 0,.pointer none] 240)=wA at *;have a6:w.heap.size<=wr.heap.size:=B.out.size;generalize wr.heap.size=p at *;clear U B X hj hlj;go_fit hA;rintro e R ⟨rfl,tv',ac,aL,aH,aI⟩
 have ag:ak wA R S [201,210]:=ak.mk aI λg hg e=>by
  rcases e with rfl|e
  ·exact⟨HY.out.fy,201,by simp,Bx.ty av.out⟩
  obtain⟨tl,zs,b⟩:=HY.out.rest;exact⟨b.train.own g e,210,by simp,Sl.ty aC.out e⟩
 have aj:Sl R 193 6 (s_ d l q.length a) q.length (r.flatMap (cP c.age)):=ag.sl (az.out.later T.out) (by decide);have hD:=p8 r c.age j d l a R (by rw[f.out];exact aj) aR.out a3 (by rw[f.out];exact aP) (by rw[f.out];exact hn);rw[f.out] at hD;have ab:=hd ag;have ar:=hd ac;have aX:=hd aL;have aU:=hd aH;have aw:Hid (cy R yb 201):=ac.ty;have aB:Hid (cy R d 193):=aj.ty rfl;clear hA ac aL aH aI ag aj;go_wp2_with fail;go_fit hD;rintro e w5 ⟨rfl,aJ,ad⟩;have N:d≠yb:=by omega
 have G:Bx w5 yb 201 (aA c {x with tv:=tv'} s.begun s.now (.slice qa q.length n) sb s.outs.length ov):=ar.out.grown ad (by simpa using N.symm);have b9:=G.c 9 (.slice qa q.length n);have f9:=G.fr 9
 have aG:Bx (w5.setCell ⟨yb,9,none⟩ (s_ d l (q.length-j) a)) yb 201 (aA c {x with tv:=tv'} s.begun s.now (s_ d l (q.length-j) a) sb s.outs.length ov):=by
  have:=G.set 9 (s_ d l (q.length-j) a);rwa [vZ] at this
 have aW:Hid (Sl (w5.setCell ⟨yb,9,none⟩ (s_ d l (q.length-j) a)) 193 6 (s_ d l (q.length-j) a) (q.length-j) ((r.drop j).flatMap (cP c.age))):=aJ.grown (ah _ _ _ _) (λg hg e=>N (by cases hg;injection e with e;exact e.symm));have aV:Hid (ai R (w5.setCell ⟨yb,9,none⟩ (s_ d l (q.length-j) a)) (λg=>g=yb\/g=d)):=(ai.of_grown ad (S:=λg=>g=yb\/g=d) λg h=>by cases h;exact .inr rfl).set (.inl (.inl rfl));have au:=hd aG;clear hD aJ ad G ar aG;go_wp2_with fail;generalize w5.setCell ⟨yb,9,none⟩ (s_ d l (q.length-j) a)=w6 at *;clear b9 f9;go_loopw [64] (λiv wr=>∃m:Nat,m<=q.length-j/\iv=I m/\Hid (Sl wr 193 6 (s_ d l (q.length-j) a) (q.length-j) ((gy (r.drop j) m).flatMap (cP c.age)))/\Hid (w6.grownBy wr (some d))) (λi _=>q.length-j-(intOf i).toNat)
 case atStart=>exact⟨0,k_ _,rfl,by simpa[gy] using aW,World.grownBy.refl _ _⟩
 obtain⟨m,hm,rfl,L,K⟩:=hrel;have b9:wr.cell? ⟨yb,9,none⟩=some (s_ d l (q.length-j) a):=(au.out.grown K.out (by simpa using N.symm)).cell (i:=9) rfl;by_cases hlm:m<q.length-j
 ·have D:m<(r.drop j).length:=by rw[G_,f.out];exact hlm
  have am:m<(gy (r.drop j) m).length:=by rw[nc];exact D
  have Y:(r.drop j)[m].1∈s.queue:=HY.out.qs.mem_iff.1 (x_ (HR.out.2.mem_iff.1 (List.mem_of_mem_drop (i_ D))))
  have bf:(r.drop j)[m].1.passed<1048576000:=by
   have:=(hI.top _ Y).2.2.1;omega
  have e2:wr.cell? ⟨d,l+m*6+2,none⟩=some (I (r.drop j)[m].1.passed):=by
   have:=L.out.cell (j:=m*6+2) (u:=I (r.drop j)[m].1.passed) (by rw[aq (cP c.age) 6 (λ_=>rfl) _ m 2 am (by decide),kd _ _ D];rfl);rwa [<-J_] at this
  have f2:=L.out.fr (l+m*6+2)
  have HN:Hid (∀W:World,Sl W 193 6 (s_ d l (q.length-j) a) (q.length-j) ((gy (r.drop j) m).flatMap (cP c.age))->Sl (W.setCell ⟨d,l+m*6+2,none⟩ (I (((r.drop j)[m].1.passed:Int)+1))) 193 6 (s_ d l (q.length-j) a) (q.length-j) ((gy (r.drop j) (m+1)).flatMap (cP c.age))):=λW hW=>by
   have:=hW.set (m*6+2) (I (((r.drop j)[m].1.passed:Int)+1));rw[<-oZ _ _ D];have hf:=vt c.age (gy (r.drop j) m) m am;rw[kd _ _ D] at hf;rw[hf,J_];exact this
  generalize (r.drop j)[m].1.passed=ps at *;clear Y am;go_wp2_with fail;refine⟨⟨m+1,hlm,by go_num,HN.out _ L.out,K.out.trans (ah _ _ _ _)⟩,by simp[intOf];omega⟩
 obtain rfl:m=q.length-j:=by omega
 go_wp2_with fail;go_ret;have h:=HY.out;have aY:Bx wr yb 201 (aA c {x with tv:=tv'} s.begun s.now (s_ d l (q.length-j) a) sb s.outs.length ov):=au.out.grown K.out (by simpa using N.symm);have O1:ak w R S [201,210]:=(ak.below (ts:=[]) aa.out).trans ab.out (aE.old w);have aF:ai R wr (λk=>k=yb\/k=d):=aV.out.trans (ai.of_grown K.out (S:=λk=>k=d) λk e=>by cases e;rfl) λk e=>.inl (.inr e)
 have O:ak w wr S [201,210]:=ai.trans O1 aF λk e=>by
  rcases e with rfl|rfl
  ·exact .inl ⟨h.fy,201,by simp,h.box.ty⟩
  exact .inr aO
 have K2:aM R wr [201,193]:=(ak.mk (S:=λ_=>True) aF λk _ e=>by
  rcases e with rfl|rfl
  ·exact⟨trivial,201,by simp,aw.out⟩
  exact⟨trivial,193,by simp,aB.out⟩).k
 obtain⟨tl,zs,b⟩:=h.rest
 have t:(s.ranked c).take j=(s.ranked c).take c.batch/\(s.ranked c).drop j=(s.ranked c).drop c.batch:=by
  have hl:(s.ranked c).length=q.length:=by rw[<-HR.out.1,d_,f.out]
  have Q:=HK.out;by_cases hle:c.batch<=q.length
  ·rw[U_ hle] at Q;rw[Q];exact⟨rfl,rfl⟩
  rw[Nat.min_eq_right (by omega)] at Q;exact⟨by rw[m_ (by omega),m_ (by omega)],by rw[List.drop_eq_nil_of_le (by omega),List.drop_eq_nil_of_le (by omega)]⟩
 have aN:=rp (r.drop j) (q.length-j) (by rw[G_,f.out];exact b_ _);have V:=L.out;rw[aN] at V;have aS:=ap.out.size;have P:∀z∈r,z∈q:=λz F=>HR.out.2.mem_iff.1 F;refine⟨rfl,⟨(r.drop j).map upP,s_ d l (q.length-j) a,tv',⟨?_,aY,⟨?_,λy hy=>?_,λg hg=>?_,λy hy g hg=>?_⟩,O.sub h.sub (by decide),h.outs.keptT O.k (aE.old w) (by decide),.inl h.fy,.inl h.fs,⟨tl,[(p,Sm.new (((s.ranked c).take c.batch).map Ch.cg))],h.np,h_ b.ml O.size,b.tip.imp (λe=>e) .inl,O.map b.map (by decide),b.main.keptT O.k (aE.old w) (by decide) (by decide),rfl,K2.sl aX.out (by decide),λg hg=>?_,by simp,λz F=>?_⟩,h.nt⟩⟩,O⟩
 ·show (((r.drop j).map upP).map Prod.fst).Perm ((s.queue.filter _).map Ch.up)
  have e:((r.drop j).map upP).map Prod.fst=((s.ranked c).drop c.batch).map Ch.up:=by
   rw[<-t.2,<-HR.out.1,<-List.map_drop,y_,y_];rfl
  rw[e];exact((hI.left hc c.batch).map Ch.up).symm
 ·rw[d_,G_,f.out];exact V
 ·obtain⟨z,F,rfl⟩:=q_.1 hy;exact O.sl (h.que.eds z (P z (List.mem_of_mem_drop F))) (by decide)
 ·cases hg;exact .inr aO
 ·obtain⟨z,F,rfl⟩:=q_.1 hy;exact .inl (h.que.fe z (P z (List.mem_of_mem_drop F)) g hg)
 ·rcases aU.out with e|⟨g',e,a1⟩
  ·rw[e] at hg;exact .inl (b.train.own g hg)
  rw[e] at hg;cases hg;exact .inr (e_ aa.out.size a1)
 obtain rfl:=o_.1 F;refine⟨.slice v j A,.pointer none,(r.take j).map AR,K2.bx (ab.out.bx aD.out (by decide)) (by decide),⟨?_,?_,λg hg=>?_,λy hy=>?_⟩,rfl,.inr a6⟩
 ·show _=((s.ranked c).take c.batch).map Ch.cg;rw[<-t.1,<-HR.out.1,<-List.map_take,y_,y_];rfl
 ·have:=K2.sl (ab.out.sl ay.out (by decide)) (by decide);rwa [show ((r.take j).map AR).length=j by rw[d_,l_,f.out];exact U_ aP]
 ·exact .inr (e_ aS (ax.out g hg))
 obtain⟨z,F,rfl⟩:=q_.1 hy;exact⟨O.sl (h.que.eds z (P z (List.mem_of_mem_take F))) (by decide),λg hg=>.inl (h.que.fe z (P z (List.mem_of_mem_take F)) g hg)⟩
end
section
variable{c:Cfg}{q:List Pw}{age i n0 nb:Nat}{z:Nz}{row:Option Nat}{s:Ts}{w w' w0:World}
theorem ze (h:w.grownBy w' row):w.grownBy w'.drew row:=⟨h.os,h.tape,h.output,h.size,h.block⟩
def rkP (age:Nat)(q:List Pw):List Pw:=rkG (λx=>mH age x.1) q 4
theorem CC (age:Nat)(q:List Pw):rk age (q.map wt) 4=(rkP age q).map wt:=by
 show rkG (pK age) (q.map wt) 4=_;rw[jX];rfl
theorem Bf (age:Nat)(q:List Pw):(rkP age q).map Prod.fst=rkG (mH age) (q.map Prod.fst) 4:=by
 rw[jX];rfl
theorem zg (h:∀x∈q,x.1.lane<4):(rkP age q).Perm q:=eX λx hx=>Nat.lt_of_le_of_lt (Nat.sub_le _ _) (h x hx)
def woN (q r:List Pw)(i:Nat):List Pw:=q.filter λx=> !(r.take i).any λy=>y.1.id==x.1.id
theorem zh (q r:List Pw):woN q r 0=q:=by simp[woN]
theorem zc (q r:List Pw){i:Nat}(hi:i<r.length):woQ r[i].1.id (woN q r i)=woN q r (i+1):=by
 unfold woQ woN;rw[List.filter_filter];congr 1;funext x;rw[g_ hi,List.any_append];have e:(r[i].1.id==x.1.id)=(x.1.id==r[i].1.id):=by rw[Bool.eq_iff_iff,beq_iff_eq,beq_iff_eq];exact eq_comm
 simp only[List.any_cons,List.any_nil,Bool.or_false,Bool.not_or,bne,e];rw[Bool.and_comm]
theorem vC (q r:List Pw)(i:Nat):(woN q r i).length<=q.length:=List.length_filter_le _ _
theorem Bg {r:List Pw}(hp:r.Perm q)(hn:(q.map λx=>x.1.id).Nodup){i:Nat}(hi:i<r.length):r[i]∈woN q r i:=by
 have a:=(hp.map _).nodup_iff.2 hn;refine Z_.2 ⟨hp.mem_iff.1 (i_ hi),?_⟩;rw[Bool.not_eq_true',List.any_eq_false];intro y hy;have b:((r.take i).map (λx=>x.1.id)++(r.drop i).map λx=>x.1.id).Nodup:=by rw[<-w_,X_];exact a
 have c:r[i]∈r.drop i:=by rw[M_ hi];exact D_
 have:=(List.nodup_append.1 b).2.2 y.1.id (x_ hy) r[i].1.id (x_ c);simpa using this
theorem Be {r:List Pw}:(woN q r i).map Prod.fst=(q.map Prod.fst).filter λx=> !((r.map Prod.fst).take i).any λy=>y.id==x.id:=by
 rw[woN,List.filter_map];congr 2;funext x;simp only[Function.comp,<-List.map_take,List.any_map];rfl
theorem rS:∀(L:List Pw) (m:Nat) (h:m<L.length),((L.set m (upP L[m])).map wt).flatMap cW=((L.map wt).flatMap cW).set (m*4+2) (I ((L[m].1.passed:Int)+1))
 |x::L,0,_=>by simp[cW,wt,upP,Ch.up]
 |x::L,m+1,h=>by
  have ih:=rS L m (by simpa using h)
  rw[List.set_cons_succ,C_,C_,F_,F_,List.getElem_cons_succ,ih,List.set_append_right _ _ (by simp[cW];omega)]
  congr 2
  simp[cW];omega
theorem DZ (c:Cfg)(tip mv idv qv sv ov qv':Value)(a b t:Nat):(dS c tip mv idv qv sv ov a b t).setIfInBounds 10 qv'=dS c tip mv idv qv' sv ov a b t:=rfl
theorem tU (c:Cfg)(tip mv idv qv sv ov sv':Value)(a b t:Nat):(dS c tip mv idv qv sv ov a b t).setIfInBounds 11 sv'=dS c tip mv idv qv sv' ov a b t:=rfl
theorem DY (h:aS w0 w nb n0 c s z)(hI:s.Inv c)(hc:c.Ok)(hq:s.queue≠[])(hi:s.ids.length<1048576000):
 c_ 216 #[Px nb] w λe w'=>e=.returned (.tuple #[])/\bM w0 w' nb n0 c (s.pick c):=by
 obtain⟨an,mv,am,qv,sv,ov,q,tl,zs⟩:=z;have B:=h.qs;have Y:q.length=s.queue.length:=by rw[<-B,d_]
 have a7:0<q.length:=by rw[Y];exact S_.2 hq
 have V:∀x∈q,x.1∈s.queue:=λx d=>by rw[<-B];exact x_ d
 have a8:q.length<=16:=by rw[Y];exact e_ hI.len hc.2.2.2.2.2.2.2
 have h4:∀x∈q,x.1.lane<4:=λx d=>by have:=(hI.top _ (V x d)).2.1;have:=hc.1.2;omega
 have al:∀x∈q,x.1.passed<1048576000:=λx d=>by have:=(hI.top _ (V x d)).2.2.1;omega
 have n:=zg (age:=c.age) h4
 have a5:(q.map λx=>x.1.id).Nodup:=by
  have:=hI.nd;rw[<-B,y_] at this;exact this
 obtain⟨g,l,rfl⟩:∃g l,qv=s_ g 0 (q.map wt).length l:=by
  rcases h.row.2 with ⟨_,h0⟩|⟨g,aC,aD,e,_⟩
  ·simp only at h0;omega
  exact⟨g,aC,by rw[d_];exact e⟩
 have aa:w.ownsRow w0.heap.size 165 4 (s_ g 0 (q.map wt).length l) (q.map wt).length ((q.map wt).flatMap cW):=by
  have:=h.row;simp only at this;rwa [<-d_ (f:=wt)] at this
 have U:=oK nb c.age (q.map wt) g l w0.heap.size _ w h.box rfl rfl ⟨hc.2.1.1,by have:=hc.2.1.2;omega⟩ aa (λx d=>by
  obtain⟨y,t,rfl⟩:=q_.1 d
  exact⟨(h.eds y t).form,by have:=h4 y t;show y.1.lane<1000;omega,by have:=al y t;show y.1.passed<_;omega⟩) (by rw[d_];omega)
 rw[CC] at U;obtain⟨r,hr⟩:∃r,r=rkP c.age q:=⟨_,rfl⟩;rw[<-hr] at U n;have aU:Hid (r.map Prod.fst=s.ranked c):=by show _=_;rw[hr,Bf,B];rfl
 have HP:=hd n;have HN:=hd h;have bd:=hd a5;have HQ:Hid (∀x∈q,x.1.passed<1048576000/\bD x.2):=λx d=>⟨al x d,(h.eds x d).form⟩;have N:=hd aa;have c2:=h.box.c 2 (I c.batch);have bk:=hc.2.2.1.1;have bl:=hc.2.2.1.2;obtain⟨bt,aj⟩:∃bt,bt=c.batch:=⟨_,rfl⟩;rw[<-aj] at c2 bk bl;obtain⟨D,X⟩:∃D,D=(r.map wt).length:=⟨_,rfl⟩;have au:D=q.length:=by rw[X,d_,n.length_eq]
 rw[<-X] at U;have bv:=hd aj;have M:=hd X;have ao:=hd au;have br:D<=16:=by omega
 have bs:0<D:=by omega
 obtain⟨k,p⟩:∃k,(bt<=D/\k=bt)\/(D<bt/\k=D):=by
  by_cases aL:bt<=D
  ·exact⟨bt,.inl ⟨aL,rfl⟩⟩
  exact⟨D,.inr ⟨by omega,rfl⟩⟩
 have bo:k<=D:=by omega
 have bn:0<k:=by omega
 have HK:Hid ((r.map Prod.fst).take k=(s.ranked c).take c.batch):=by
  show _=_;rw[aU.out];have hl:(s.ranked c).length=D:=by rw[<-aU.out,d_,X,d_]
  rcases p with ⟨h1,h2⟩|⟨h1,h2⟩
  ·rw[h2,aj]
  rw[m_ (by omega),m_ (by omega)]
 clear h aa V h4 al a5 n hr aj X au B Y a7 a8;go_enter func216,ntmps216;go_wp2_with fail;go_fit U;rintro e w1 ⟨v1,rfl,Z,E⟩
 obtain⟨g1,k1,rfl⟩:∃g1 k1,v1=s_ g1 0 D k1:=by
  rcases Z.2 with ⟨_,h0⟩|⟨g,aC,aD,e,_⟩
  ·omega
  exact⟨g,aC,e⟩
 have av:=hd E;have aT:=hd Z
 have hP:=nC (r.map wt) (s_ g1 0 D k1) 0 k w1 (by rw[<-M.out];exact Sl.of_row Z) (λx d=>by
  obtain⟨y,t,rfl⟩:=q_.1 d
  exact(HQ.out y (HP.out.mem_iff.1 t)).2) (k_ _) (by rw[<-M.out];exact bo) (by rw[<-M.out];omega)
 have aR:Hid (∀i (hi:i<r.length),w1.cell? ⟨g1,i*4,none⟩=some (I r[i].1.id)):=λi hi=>by
  have:=(Sl.of_row Z).cell (j:=i*4) (u:=I r[i].1.id) (by
   have:=aq cW 4 (λ_=>rfl) (r.map wt) i 0 (by rw[d_];exact hi) (by decide)
   simpa[cW,wt] using this)
  simpa using this
 have a9:Hid (r.length=D):=by show _=_;rw[M.out,d_]
 have d2:=ae E c2;have aX:=HN.out.box.later E;have G:=hd aX;rw[show ((0:Nat):Int)=0 from rfl,Nat.sub_zero,List.drop_zero] at hP;clear Z E U c2 aX M;rcases p with ⟨aL,a3⟩|⟨aL,a3⟩
 all_goals
  subst a3;go_wp2_with fail;go_fit hP;rintro e a ⟨⟨v2,rfl,aQ⟩,aK⟩;obtain⟨P,k2,rfl⟩:=ag aQ;have R:=G.out.later aK;have aW:=R.fr 11;have aV:=R.c 11 sv;have bu:=R.lt;have H:=hd R;have az:=hd aQ;have ab:=hd aK;clear aQ aK R hP d2;go_upto_region 5 with fail;have ba:(a.setCell ⟨nb,11,none⟩ (s_ (a.heap.size) 0 1 1)).heap.size=a.heap.size:=by simp
  have ap:((a.setCell ⟨nb,11,none⟩ (s_ (a.heap.size) 0 1 1)).alloc (.cells #[.slice P k k2,I 0,I 0,.bool false,I 0,I 0,Zn] 170)).ownsRow w.heap.size 170 7 (s_ (a.heap.size) 0 1 1) 1 [.slice P k k2,I 0,I 0,.bool false,I 0,I 0,Zn]:=by
   have:=Bx.new (a.setCell ⟨nb,11,none⟩ (s_ (a.heap.size) 0 1 1)) #[.slice P k k2,I 0,I 0,.bool false,I 0,I 0,Zn] 170;rw[ba] at this;exact⟨rfl,.inr ⟨a.heap.size,1,_,rfl,e_ av.out.size ab.out.size,this,b_ _,by decide,rfl,rfl⟩⟩
  have aY:Bx (a.setCell ⟨nb,11,none⟩ (s_ (a.heap.size) 0 1 1)) nb 163 (dS c an mv am (s_ g 0 (q.map wt).length l) (s_ (a.heap.size) 0 1 1) ov s.acked s.begun s.now):=by
   have:=H.out.set 11 (s_ (a.heap.size) 0 1 1);rwa [tU] at this
  have aw:Hid (Bx ((a.setCell ⟨nb,11,none⟩ (s_ (a.heap.size) 0 1 1)).alloc (.cells #[.slice P k k2,I 0,I 0,.bool false,I 0,I 0,Zn] 170)) nb 163 (dS c an mv am (s_ g 0 (q.map wt).length l) (s_ (a.heap.size) 0 1 1) ov s.acked s.begun s.now)):=aY.mk _;have a0:ai w (a.setCell ⟨nb,11,none⟩ (s_ (a.heap.size) 0 1 1)) (λk=>k=nb):=(ai.of_below (av.out.trans (ab.out.mono av.out.size))).set (.inl rfl);have ac:Hid (ai w ((a.setCell ⟨nb,11,none⟩ (s_ (a.heap.size) 0 1 1)).alloc (.cells #[.slice P k k2,I 0,I 0,.bool false,I 0,I 0,Zn] 170)) (λk=>k=nb)):=a0.trans (ai.of_below (S:=λk=>k=nb) (af _ _)) λk p=>.inl p;have aB:=hd ap;have J:Hid (((a.setCell ⟨nb,11,none⟩ (s_ (a.heap.size) 0 1 1)).alloc (.cells #[.slice P k k2,I 0,I 0,.bool false,I 0,I 0,Zn] 170)).ownsRow w1.heap.size 165 4 (.slice P k k2) k (((r.map wt).take k).flatMap cW)):=p_ (t_ az.out (ah _ _ _ _) (d7 az.out H.out (by decide))) _;have ar:g1≠nb:=λe=>cf aT.out G.out (by decide) (by rw[e];rfl)
  have bc:Hid (∀i (hi:i<r.length),((a.setCell ⟨nb,11,none⟩ (s_ (a.heap.size) 0 1 1)).alloc (.cells #[.slice P k k2,I 0,I 0,.bool false,I 0,I 0,Zn] 170)).cell? ⟨g1,i*4,none⟩=some (I r[i].1.id)):=λi hi=>by
   refine ae (af _ _) ?_;rw[H_ _ _ _ _ (by intro e;injection e with e1 e2;exact ar e1.symm)];exact ae ab.out (aR.out i hi)
  have aA:=hd (aN N.out λb hb=>ac.out.block b (f_ N.out b hb).2 λe=>cf N.out HN.out.box (by decide) (by rw[hb,e]));generalize (a.setCell ⟨nb,11,none⟩ (s_ (a.heap.size) 0 1 1)).alloc (.cells #[.slice P k k2,I 0,I 0,.bool false,I 0,I 0,Zn] 170)=w4 at *;clear ba ap aY a0 G H aW aV ab az aR aT;go_wp2_with fail;go_loopw [4] (λiv wr=>∃i:Nat,i<=k/\iv=I i/\Hid (∃F,Bx wr nb 163 (dS c an mv am F (s_ (a.heap.size) 0 1 1) ov s.acked s.begun s.now)/\wr.ownsRow w0.heap.size 165 4 F (woN q r i).length (((woN q r i).map wt).flatMap cW)/\(0<i->∀b,F.ownBlock=some b->w4.heap.size<=b)/\ai w4 wr (λk=>k=nb))) (λi _=>k-(intOf i).toNat)
  case atStart=>exact⟨0,k_ _,rfl,_,aw.out,by rw[zh];simpa only[d_] using aA.out,λh=>absurd h (by decide),ai.refl _ _⟩
  obtain⟨i,bz,rfl,hQ⟩:=hrel;by_cases hlt:i<k
  ·obtain⟨F,T,C,ak,hO⟩:=hQ.out;have aO:i<r.length:=by rw[a9.out];omega
   have hm:=Bg HP.out bd.out aO;have bq:=vC q r i
   obtain⟨g',o,rfl⟩:∃g' o,F=s_ g' 0 ((woN q r i).map wt).length o:=by
    rcases C.2 with ⟨_,h0⟩|⟨g',o,aD,e,_⟩
    ·have:=List.length_pos_of_mem hm;omega
    exact⟨g',o,by rw[d_];exact e⟩
   have hW:=mx nb r[i].1.id ((woN q r i).map wt) g' o w0.heap.size _ wr T rfl (by simpa only[d_] using C) (λx d=>by
    obtain⟨y,t,rfl⟩:=q_.1 d
    exact(HQ.out y (Z_.1 t).1).2) (by rw[d_];have:=ao.out;omega)
   rw[yY,zc q r aO] at hW;have d0:=cG hO ar (bc.out i aO);have A:=hd hO;generalize r[i].1.id=bA at *;clear T C ak hO hm hQ bq;go_wp2_with fail;go_fit hW;rintro e w5 ⟨rfl,v5,aE,aH,a1⟩;rw[DZ] at aE;have H5:=hd aE
   have H6:Hid (w5.ownsRow wr.heap.size 165 4 v5 (woN q r (i+1)).length (((woN q r (i+1)).map wt).flatMap cW)):=by
    rw[d_] at aH;exact aH
   have H7:=hd a1;have aJ:=hd (e_ HN.out.below.size ac.out.size);clear aE aH a1 hW;go_wp2_with fail;exact⟨⟨i+1,hlt,by go_num,v5,H5.out,cp H6.out (e_ aJ.out A.out.size),λ_ b hb=>e_ A.out.size (f_ H6.out b hb).1,A.out.trans H7.out λk p=>.inl p⟩,by simp[intOf];omega⟩
  obtain rfl:i=k:=by omega
  obtain⟨F,T,C,ak,hO⟩:=hQ.out;obtain⟨qa,qc,rfl⟩:=ag C;have ax:=hd T;have ad:=hd C;have ay:=hd (ak bn);have A:=hd hO;have L:Hid (∀x∈woN q r i,x∈q):=λx d=>(Z_.1 d).1;have Y:(woN q r i).length<=16:=e_ (vC q r i) (by have:=ao.out;omega);obtain⟨w5,bp⟩:∃w5,w5=wr:=⟨_,rfl⟩;subst bp;obtain⟨Q,aG⟩:∃Q,Q=woN q r i:=⟨_,rfl⟩;rw[<-aG] at ax ad ay L Y;have bg:=hd aG;clear T C ak hO hQ aG;go_wp2_with fail;go_loopw [5] (λiv wr=>∃m:Nat,m<=Q.length/\iv=I m/\Hid (wr.ownsRow w0.heap.size 165 4 (.slice qa Q.length qc) Q.length (((gy Q m).map wt).flatMap cW))/\Hid (w5.grownBy wr (Value.slice qa Q.length qc).ownBlock)) (λi _=>Q.length-(intOf i).toNat)
  case atStart=>exact⟨0,k_ _,rfl,by simpa[gy] using ad,World.grownBy.refl _ _⟩
  obtain⟨m,hm,rfl,U,hG⟩:=hrel;have a6:=cf ad.out ax.out (by decide);have aF:=ax.out.grown hG.out (λe=>a6 e.symm);have bw:=aF.c 10 (.slice qa Q.length qc);have bb:=hd aF;clear aF;by_cases hlm:m<Q.length
  ·obtain⟨g5,c5,hv⟩:∃g5 c5,(Value.slice qa Q.length qc)=s_ g5 0 Q.length c5:=by
    rcases U.out.2 with ⟨h,h0⟩|⟨g5,c5,aD,e,_⟩
    ·omega
    exact⟨g5,c5,e⟩
   cases hv
   have aP:m<(gy Q m).length:=by rw[nc];exact hlm
   have al:=(HQ.out _ (L.out _ (i_ hlm))).1
   have e2:wr.cell? ⟨g5,m*4+2,none⟩=some (I Q[m].1.passed):=by
    have:=(Sl.of_row U.out).cell (j:=m*4+2) (u:=I Q[m].1.passed) (by
     rw[aq cW 4 (λ_=>rfl) ((gy Q m).map wt) m 2 (by rw[d_];exact aP) (by decide),List.getElem_map,kd _ _ hlm];rfl)
    rwa [O_] at this
   have f2:=(Sl.of_row U.out).fr (m*4+2)
   have bf:Hid (∀W:World,W.ownsRow w0.heap.size 165 4 (s_ g5 0 Q.length qc) Q.length (((gy Q m).map wt).flatMap cW)->(W.setCell ⟨g5,m*4+2,none⟩ (I ((Q[m].1.passed:Int)+1))).ownsRow w0.heap.size 165 4 (s_ g5 0 Q.length qc) Q.length (((gy Q (m+1)).map wt).flatMap cW)):=λW hW=>by
    have:=(hW.stored (m*4+2) (I ((Q[m].1.passed:Int)+1))).1;rw[<-oZ _ _ hlm];have hf:=rS (gy Q m) m aP;rw[kd _ _ hlm] at hf;rw[hf];exact this
   have bx:g5≠nb:=λe=>a6 (by rw[e];rfl);generalize Q[m].1.passed=ps at *;clear aP;go_wp2_with fail;go_region
   all_goals
    go_wp2_with fail;exact⟨⟨m+1,hlm,by go_num,bf.out _ U.out,hG.out.trans (ze (ah _ _ _ _))⟩,by simp[intOf];omega⟩
  obtain rfl:m=Q.length:=by omega
  go_wp2_with fail;have h:=HN.out;have aJ:=ac.out.size;have O5:=ac.out.trans A.out λk p=>.inl p;have O:=O5.trans (ai.of_grown (S:=λk=>(Value.slice qa Q.length qc).ownBlock=some k) hG.out λk p=>p) λk p=>.inr (e_ aJ (ay.out k p));have K:aM w wr [163]:=aM.of_only O λk p=>⟨_,by simp,p▸h.box.ty⟩
  have bi:wr.ownsRow w0.heap.size 165 4 (.slice qa Q.length qc) (Q.map upP).length (((Q.map upP).map wt).flatMap cW):=by
   have:=U.out;rw[rp Q Q.length (b_ _)] at this;rw[d_];exact this
  have a4:=h.below.size;have nq:∀b,b<w4.heap.size->(Value.slice qa Q.length qc).ownBlock≠some b:=λb hb e=>by have:=ay.out b e;omega
  have aI:=aN aB.out λb hb=>A.out.block b (f_ aB.out b hb).2 λe=>cf aB.out aw.out (by decide) (by rw[hb,e]);have bj:=aN aI λb hb=>hG.out.block b (f_ aI b hb).2 λe=>(Sl.of_row ad.out).apart (Sl.of_row aI) (by decide) e.symm hb;have aZ:=aN J.out λb hb=>A.out.block b (f_ J.out b hb).2 λe=>cf J.out aw.out (by decide) (by rw[hb,e]);have bh:=aN aZ λb hb=>hG.out.block b (f_ aZ b hb).2 λe=>nq b (f_ J.out b hb).2 e.symm;refine be_ ⟨rfl,⟨an,mv,am,.slice qa Q.length qc,s_ (a.heap.size) 0 1 1,ov,Q.map upP,tl,[⟨Sm.new (((s.ranked c).take c.batch).map Ch.cg),.slice P i k2,0,Zn,(r.take i).map yX⟩]⟩,?_⟩;refine⟨eJ h.below O λk p=>p▸h.low,h.low,bb.out,h.tip.keptT K (by decide) (b_ _),h.mfst,K.row h.mrow (by decide),λy t=>⟨K.sl (h.mids y t).1 (by decide),(h.mids y t).2⟩,K.row h.ids (by decide),?_,bi,?_,rfl,cp bj a4,?_,K.row h.outs (by decide)⟩
  ·show (Q.map upP).map Prod.fst=(s.queue.filter λx=> !((s.ranked c).take c.batch).any λy=>y.id==x.id).map Ch.up;have e:(Q.map upP).map Prod.fst=(Q.map Prod.fst).map Ch.up:=by rw[y_,y_];rfl
   have B:=h.qs;rw[e,bg.out,Be,B,HK.out]
  ·intro x d;obtain⟨y,t,rfl⟩:=q_.1 d;exact h.eds y (L.out y t)
  intro y t;obtain rfl:=o_.1 t;have bm:(r.take i).length=i:=by rw[l_,a9.out];omega
  refine⟨⟨⟨?_,?_,?_⟩,⟨_,_,_,rfl⟩,λj hj=>by cases hj⟩,λb hb=>nq b (f_ J.out b hb).2⟩
  ·show ((r.take i).map yX).map Prod.fst=((s.ranked c).take c.batch).map Ch.cg;rw[<-HK.out,<-List.map_take,y_,y_];rfl
  ·show Sl wr 165 4 (.slice P i k2) ((r.take i).map yX).length ((((r.take i).map yX).map wOf).flatMap cW);have e:((r.take i).map yX).map wOf=(r.map wt).take i:=by rw[y_,<-List.map_take];rfl
   rw[e,d_,bm];exact Sl.of_row bh
  intro y t;obtain⟨x,d,rfl⟩:=q_.1 t;exact h.eds x (HP.out.mem_iff.1 (List.mem_of_mem_take d))
variable{f:Sm}{w1 w2:World}
theorem bj (h:Bl w w1)(h2:Bl w1 w2):Bl w w2:=h.trans (h2.mono h.size)
theorem zi {m:List Sm}(h:aS w0 w nb n0 c s z)(hI:s.Inv c)(hs:s.segs=f::m)(hn:(n0+4*s.ids.length+136)*32<=140737488355328)(HC:Hid ((aB s.tip f.l).2=f.l.length/\f.by_=0/\f.fails<=c.retries)):
 c_ 178 #[Px nb] w λe w'=>e=.returned (.bool false)/\bM w0 w' nb n0 c s:=by
 obtain⟨aa,mv,ar,qv,sv,ov,q,tl,zs⟩:=z;have J:=h.ss.trans hs
 obtain⟨y,O,rfl⟩:∃y O,zs=y::O:=by
  cases zs with
  |nil=>cases J
  |cons y O=>exact⟨y,O,rfl⟩
 rw[C_] at J;injection J with hyx hys
 obtain⟨g,o,rfl⟩:∃g o,sv=s_ g 0 (O.length+1) o:=by
  rcases h.srow.2 with ⟨_,h0⟩|⟨g,aj,ao,e,_⟩
  ·simp at h0
  exact⟨g,aj,e⟩
 obtain⟨d,ak⟩:=h.segs y D_;have hf:=hI.sm f (by rw[hs];exact D_)
 have Y:f.l.length<=8:=by
  have:=hI.tr;rw[hs,aO] at this;omega
 have H:y.cl.length=f.l.length:=by rw[d.l.len,hyx]
 have k:y.cl.map Prod.fst=f.l:=by rw[<-hyx];exact d.l.fst
 obtain⟨r,t,B⟩:=d.l.row.form;obtain⟨Q,S,R,K⟩:=d.sl;have X:s.outs.length<=s.ids.length:=by have:=hI.cnt;omega
 have hM:∀W,Bl w W->c_ 217 #[aa,.slice r y.cl.length t] W λe w'=>(∃u,e=.returned (.tuple #[u,I (aB s.tip f.l).2])/\cu w' (n0+4*s.outs.length+4*f.l.length) u (aB s.tip f.l).1)/\Bl W w':=λW hW=>by
  rw[<-B];exact jM y.cl f.l aa y.lv s.tip (n0+4*s.outs.length) W (h.tip.later hW) k (d.l.row.later hW) (λx hx=>(d.l.eds x hx).later (bj h.below hW)) (λx hx=>(hf.eds x hx).2) (e_ (u_ 32 (show n0+4*s.outs.length+4*f.l.length+104<=n0+4*s.ids.length+136 by omega)) hn) Y
 have E:∀j (u:Value),(cSg y)[j]? =some u->w.cell? ⟨g,j,none⟩=some u:=λj u C=>by
  have h7:j<7:=by have:=(N_.1 C).1;exact this
  have:=(Sl.of_row h.srow).cell (j:=j) (u:=u) (by
   rw[F_,V_ (by show j<7;exact h7)];exact C)
  rwa [O_] at this
 have hC:cSg y=[.slice r y.cl.length t,I f.fails,I f.by_,.bool (f.by_ !=0),I (cr f.job),I y.til,.slice Q S R]:=by rw[cSg,B,K,hyx]
 rw[hC] at E;have d0:=E 0 (.slice r y.cl.length t) rfl;have d1:=E 1 (I f.fails) rfl;have d2:=E 2 (I f.by_) rfl;have d3:=E 3 (.bool (f.by_ !=0)) rfl;have d4:=E 4 (I (cr f.job)) rfl;have d5:=E 5 (I y.til) rfl;have d6:=E 6 (.slice Q S R) rfl;obtain⟨ab,ad,ac,rfl⟩:=h.tip.form;have HN:=hd h;have HY:Hid (y.x=f/\O.map Sv.x=m/\y.lv=.slice r y.cl.length t/\y.tv=.slice Q S R/\y.cl.length=f.l.length/\y.cl.map Prod.fst=f.l):=⟨hyx,hys,B,K,H,k⟩;have HM:=hd hM;have ai:=h.box.c 11 (s_ g 0 (O.length+1) o);have c7:=h.box.c 7 (.slice ab ad ac);have c4:=h.box.c 4 (I c.retries);obtain⟨p,n⟩:∃p,p=y.cl.length:=⟨_,rfl⟩;rw[<-n] at d0 HM HY;have HZ:=hd (n.trans H);have an:p<=8:=by omega
 have am:1<=p:=by have:=S_.2 hf.ne;omega
 obtain⟨v,D⟩:∃v,v=f.fails:=⟨_,rfl⟩;obtain⟨T,L⟩:∃T,T=f.by_:=⟨_,rfl⟩;obtain⟨N,M⟩:∃N,N=(f.by_ !=0):=⟨_,rfl⟩;obtain⟨v4,Z⟩:∃v4,v4=cr f.job:=⟨_,rfl⟩;rw[<-D] at d1;rw[<-L] at d2;rw[<-M] at d3;rw[<-Z] at d4;have HV:Hid (v=f.fails/\T=f.by_/\N=(f.by_ !=0)):=⟨D,L,M⟩;clear D L M Z;clear h d ak hM hC E hyx hys B K k H hf n Y X;go_enter func178,ntmps178;go_upto_region 8 with fail;have X6:=Bx.new w #[.slice r p t,I v,I T,.bool N,I v4,I y.til,.slice Q S R] 170;have a:Hid (Bl w (w.alloc (.cells #[.slice r p t,I v,I T,.bool N,I v4,I y.til,.slice Q S R] 170))):=af _ _;generalize w.alloc (.cells #[.slice r p t,I v,I T,.bool N,I v4,I y.til,.slice Q S R] 170)=w6 at *;have U:=hd X6;have x0:=X6.c 0 (.slice r p t);have e7:=ae a.out c7;have V:=HM.out w6.drew ⟨a.out.os,a.out.tape,a.out.output,a.out.size,a.out.block⟩;clear X6 d0 d1 d2 d3 d4 d5 d6 ai HM;go_cut [5,6] from 11 (λt5 t6 wz=>bD t5/\t6=I (aB s.tip f.l).2/\cu wz (n0+4*s.outs.length+4*f.l.length) t5 (aB s.tip f.l).1/\Bl w6 wz)
 case first=>
  go_region_held_law (λw'=>w'.cell? ⟨nb,7,none⟩=some (.slice ab ad ac)/\w'.cell? ⟨w.heap.size,0,none⟩=some (.slice r p t)) (go_keep) ((go_at_call 217;refine V.mono ?_;rintro e w7 ⟨⟨u,rfl,C⟩,b⟩;obtain⟨ua,un,uc,rfl⟩:=C.form;have HU:=hd C;have ag:Hid (Bl w6 w7):=⟨b.os,b.tape,b.output,b.size,b.block⟩;have y7:=ae b e7;have y0:=ae b x0;clear C b))
  all_goals
   go_wp2_with fail;go_meet
   case rel=>exact⟨⟨_,_,_,rfl⟩,rfl,HU.out,ag.out⟩
 obtain⟨⟨ua,un,uc,rfl⟩,rfl,C,G⟩:=hcut;rename World=>w8;have HU:=hd C;have i:=hd (a.out.trans (G.mono a.out.size));have F:=hd (U.out.later G);obtain⟨P,A⟩:∃P,P=(aB s.tip f.l).2:=⟨_,rfl⟩;rw[<-A];have ah:=hd A;have al:P<=p:=by rw[A,HZ.out];exact dg _ _
 clear C G U a V x0 e7 A;obtain rfl:P=p:=by rw[ah.out,HZ.out,HC.out.1]
 obtain rfl:N=false:=by rw[HV.out.2.2,HC.out.2.1];rfl
 have D:v<=c.retries:=by rw[HV.out.1];exact HC.out.2.2
 have ap:¬((c.retries:Int)<(v:Int)):=by omega
 have aq:((P:Int)==0)=false:=beq_false_of_ne (by omega);have x0:=F.out.c 0 (.slice r P t);have x1:=F.out.c 1 (I v);have x3:=F.out.c 3 (.bool false);have e4:=ae i.out c4;generalize c.retries=rt at *;go_upto_region 25 with fail;go_region_held_law (λw'=>w'.cell? ⟨nb,4,none⟩=some (I rt)/\w'.cell? ⟨w.heap.size,1,none⟩=some (I v)) (go_keep) (fail)
 all_goals
  go_wp2_with fail;go_ret;exact⟨rfl,_,HN.out.later ⟨i.out.os,i.out.tape,i.out.output,i.out.size,i.out.block⟩⟩
variable{zs':List Sv}{xs xs':List Value}{N base base' n n' size size':Nat}{e:TypeId}{lv sv' v v':Value}
theorem cY (h:s.Inv c):s.segs.length<=8:=by
 have a:∀l:List Sm,(∀x∈l,x.l≠[])->l.length<=az l:=λl=>by
  induction l with
  |nil=>intro _;simp
  |cons x l ih=>
   intro hx;rw[aO,List.length_cons];have b:=S_.2 (hx x D_);have d:=ih λy hy=>hx y (List.mem_cons_of_mem _ hy);omega
 exact e_ (a _ λx hx=>(h.sm x hx).ne) h.tr
theorem dC.frm {z:Sv}(h:dC w0 w N z):tT z:=⟨h.l.row.form,h.sl⟩
theorem aS.newSegs (h:aS w0 w nb n0 c s z)(hO:ai w w' λk=>k=nb)(hB:Bx w' nb 163 (dS c z.tip z.mv z.idv z.qv sv' z.ov s.acked s.begun s.now))(hrow:w'.ownsRow w0.heap.size 170 7 sv' zs'.length (zs'.flatMap cSg))(hs:∀y∈zs',dC w0 w' (s.top n0) y/\∀b,y.lv.ownBlock=some b->z.qv.ownBlock≠some b):
 aS w0 w' nb n0 c {s with segs:=zs'.map Sv.x} {z with sv:=sv',zs:=zs'}:=by
 have K:aM w w' [163]:=aM.of_only hO λk hk=>⟨_,by simp,hk▸h.box.ty⟩;exact⟨eJ h.below hO λk hk=>hk▸h.low,h.low,hB,h.tip.keptT K (by decide) (b_ _),h.mfst,K.row h.mrow (by decide),λy hy=>⟨K.sl (h.mids y hy).1 (by decide),(h.mids y hy).2⟩,K.row h.ids (by decide),h.qs,K.row h.row (by decide),h.eds,rfl,hrow,hs,K.row h.outs (by decide)⟩
theorem D0 (h:aS w0 w nb n0 c s z)(id kind:Nat)(ho:s.outs.length<1048576000):
 c_ 177 #[Px nb,I id,I kind] w λe w'=>e=.returned (.tuple #[])/\(∃ov',aS w0 w' nb n0 c {s with outs:=s.outs++[(id,kind)]} {z with ov:=ov'})/\ai w w' λk=>k=nb\/z.ov.ownBlock=some k:=by
 obtain⟨n,d,a⟩:=ag h.outs;have g:=h.outs;rw[a] at g;refine(sZ nb id kind s.outs.length w0.heap.size n d _ _ w h.box (by rw[<-a];rfl) g (cf g h.box (by decide)) h.below.size ho).mono ?_;rintro e w' ⟨rfl,m,i,j,_,f⟩;rw[<-a] at f;have l:ai w w' (aS.foot nb z):=f.mono λk b=>b.elim .inl λe=>.inr (.inr (.inr e))
 have K:=aM.of_only (ts:=[163,99]) f λk b=>by
  rcases b with rfl|b
  ·exact⟨_,by simp,h.box.ty⟩
  exact⟨99,by simp,aV h.outs b⟩
 refine⟨rfl,⟨m,h.re l ⟨i,h.low,K.row h.ids (by decide),h.qs,K.row h.row (by decide),λx hx=>(h.eds x hx).form,?_⟩ (dd.refl _ _) (dd.refl _ _) h.eds rfl rfl rfl (b_ _) (by simp)⟩,f⟩;show World.ownsRow _ _ _ _ _ (s.outs++[(id,kind)]).length _;rw[j2,O_,a_];exact j
theorem D2 (h:aS w0 w nb n0 c s z)(os:List Sv)(ov':Value)(hO:Sl w 170 7 ov' os.length (os.flatMap cSg))(ho:∀y∈os,dC w0 w (s.top n0) y/\∀b,y.lv.ownBlock=some b->z.qv.ownBlock≠some b)(hn:os.length<=8)(hm:s.segs.length<=64):
 c_ 218 #[Px nb,ov'] w λe w'=>e=.returned (.tuple #[])/\(∃sv',aS w0 w' nb n0 c {s with segs:=(fu os++z.zs.drop 1).map Sv.x} {z with sv:=sv',zs:=fu os++z.zs.drop 1})/\ai w w' λk=>k=nb:=by
 have j:z.zs.length=s.segs.length:=by rw[<-h.ss,d_]
 refine(rR nb os z.zs ov' z.sv _ w h.box rfl hO (Sl.of_row h.srow) (λy a=>(ho y a).1.frm) (λy a=>(h.segs y a).1.frm) hn (by omega)).mono ?_;rintro e w' ⟨rfl,⟨m,g,i⟩,f⟩;rw[tU] at g;have K:aM w w' [163]:=aM.of_only f λk d=>⟨_,by simp,d▸h.box.ty⟩;have d:∀{y:Sv},dC w0 w (s.top n0) y->dC w0 w' (s.top n0) y:=λa=>a.kept (λb hb=>K.same _ _ (a.l.row.ty hb) (by decide)) (λb hb=>K.same _ _ hb (by decide)) (b_ _);refine⟨rfl,⟨m,h.newSegs f g (cp i h.below.size) λy a=>?_⟩,f⟩;rcases E_.1 a with a|a
 ·have:=ho y (Z_.1 a).1;exact⟨d this.1,this.2⟩
 have:=h.segs y (List.mem_of_mem_drop a);exact⟨d this.1,this.2⟩
theorem zn (w:World)(lv:Value):Sl (w.alloc (.cells #[lv,I 0,I 0,.bool false,I 0,I 0,Zn] 170)) 170 7 (s_ (w.heap.size) 0 1 1) 1 [lv,I 0,I 0,.bool false,I 0,I 0,Zn]:=
 Sl.of_row (base:=0) ⟨rfl,.inr ⟨w.heap.size,1,_,rfl,k_ _,Bx.new w _ _,b_ _,by decide,rfl,rfl⟩⟩
theorem zk (w:World)(lv lv':Value):Sl (w.alloc (.cells #[lv,I 0,I 0,.bool false,I 0,I 0,Zn,lv',I 0,I 0,.bool false,I 0,I 0,Zn] 170)) 170 7 (s_ (w.heap.size) 0 2 2) 2 [lv,I 0,I 0,.bool false,I 0,I 0,Zn,lv',I 0,I 0,.bool false,I 0,I 0,Zn]:=
 Sl.of_row (base:=0) ⟨rfl,.inr ⟨w.heap.size,2,_,rfl,k_ _,Bx.new w _ _,b_ _,by decide,rfl,rfl⟩⟩
theorem gz {e':TypeId}(h:w'.ownsRow base e size v n xs)(h':w.ownsRow base' e' size' v' n' xs')(hl:w.heap.size<=base):∀b,v.ownBlock=some b->v'.ownBlock≠some b:=λb hb hb'=>by
 have a:=(f_ h b hb).1
 have c:=(f_ h' b hb').2
 omega
def cx (l:List Cg)(lv:Value)(cl:List Rd):Sv:=⟨Sm.new l,lv,0,Zn,cl⟩
theorem nD {cl:List Rd}{qs:List Wt}(hq:cl.map wOf=qs)(hr:w.ownsRow base 165 4 lv cl.length (qs.flatMap cW))(he:∀y∈cl,iS w0 y.1.2 y.2.2.2):dC w0 w N (cx (cl.map Prod.fst) lv cl):=
 ⟨⟨rfl,by subst hq;exact Sl.of_row hr,he⟩,⟨_,_,_,rfl⟩,λj hj=>by cases hj⟩
theorem zm {l:List Cg}{cl:List Rd}(h:cl.map Prod.fst=l):(fu [cx l lv cl]).map Sv.x=fA l:=by
 subst h;cases cl with
 |nil=>rfl
 |cons y cl=>rfl
theorem rT {l l':List Cg}{lv':Value}{cl cl':List Rd}(h:cl≠[])(h':cl'≠[]):fu [cx l lv cl,cx l' lv' cl']=[cx l lv cl,cx l' lv' cl']:=by
 cases cl with
 |nil=>exact absurd rfl h
 |cons y cl=>
  cases cl' with
  |nil=>exact absurd rfl h'
  |cons y' cl'=>rfl
theorem zj {bA bB:Nat}(h:aS w0 w nb n0 c s z)(cl cl':List Rd)(lv lv':Value)(hA:w.ownsRow bA 165 4 lv cl.length ((cl.map wOf).flatMap cW))(hB:w.ownsRow bB 165 4 lv' cl'.length ((cl'.map wOf).flatMap cW))(eA:∀y∈cl,iS w0 y.1.2 y.2.2.2)(eB:∀y∈cl',iS w0 y.1.2 y.2.2.2)(nA:∀b,lv.ownBlock=some b->z.qv.ownBlock≠some b)(nB:∀b,lv'.ownBlock=some b->z.qv.ownBlock≠some b)(hm:s.segs.length<=64):
 c_ 218 #[Px nb,s_ (w.heap.size) 0 2 2] (w.alloc (.cells #[lv,I 0,I 0,.bool false,I 0,I 0,Zn,lv',I 0,I 0,.bool false,I 0,I 0,Zn] 170)) λe w'=>e=.returned (.tuple #[])/\(∃sv',aS w0 w' nb n0 c {s with segs:=(fu [cx (cl.map Prod.fst) lv cl,cx (cl'.map Prod.fst) lv' cl']++z.zs.drop 1).map Sv.x} {z with sv:=sv',zs:=fu [cx (cl.map Prod.fst) lv cl,cx (cl'.map Prod.fst) lv' cl']++z.zs.drop 1})/\ai w w' λk=>k=nb:=by
 have d:=af w (.cells #[lv,I 0,I 0,.bool false,I 0,I 0,Zn,lv',I 0,I 0,.bool false,I 0,I 0,Zn] 170);have f:∀{b n:Nat} {v:Value} {xs:List Value},w.ownsRow b 165 4 v n xs->(w.alloc (.cells #[lv,I 0,I 0,.bool false,I 0,I 0,Zn,lv',I 0,I 0,.bool false,I 0,I 0,Zn] 170)).ownsRow b 165 4 v n xs:=λhr=>p_ hr _;refine(D2 (h.later d) [cx (cl.map Prod.fst) lv cl,cx (cl'.map Prod.fst) lv' cl'] (s_ (w.heap.size) 0 2 2) (zk w lv lv') (λt a=>?_) (by show 2<=8;decide) hm).mono ?_
 ·rcases R_.1 a with rfl|a
  ·exact⟨nD rfl (f hA) eA,nA⟩
  obtain rfl:=o_.1 a;exact⟨nD rfl (f hB) eB,nB⟩
 rintro e w' ⟨rfl,g,i⟩;exact⟨rfl,g,(ai.of_below d).trans i λk hk=>.inl hk⟩
variable{so:List (Nat×Nat)}{b cap id:Nat}{y:Sv}{α:Type}
def fD:List Value->Nat->List Value->List Value
 |xs,_,[]=>xs
 |xs,o,v::vs=>fD (xs.set o v) (o+1) vs
def rV:World->Nat->Nat->List Value->World
 |w,_,_,[]=>w
 |w,g,o,v::vs=>rV (w.setCell ⟨g,o,none⟩ v) g (o+1) vs
theorem gn:∀(vs a b:List Value) (o:Nat),fD (a++b) (a.length+o) vs=a++fD b o vs
 |[],_,_,_=>rfl
 |v::vs,a,b,o=>by
  rw[fD,fD,List.set_append_right _ _ (by omega),show a.length+o-a.length=o by omega,J_]
  exact gn vs a (b.set o v) (o+1)
theorem nE:∀(vs old rest:List Value),old.length=vs.length->fD (old++rest) 0 vs=vs++rest
 |[],old,rest,h=>by rw[I_ h];rfl
 |v::vs,[],rest,h=>by cases h
 |v::vs,o::old,rest,h=>by
  have e:fD (v::(old++rest)) (0+1) vs=[v]++fD (old++rest) 0 vs:=gn vs [v] (old++rest) 0
  show fD (v::(old++rest)) (0+1) vs=v::(vs++rest)
  rw[e,nE vs old rest (by simpa using h)];rfl
theorem pi (enc:α->List Value)(k:Nat)(hk:∀x,(enc x).length=k):∀(l:List α) (i:Nat) (_:i<l.length) (y:α),(l.set i y).flatMap enc=fD (l.flatMap enc) (i*k) (enc y)
 |x::l,0,_,y=>by
  rw[List.set_cons_zero,F_,F_,Nat.zero_mul,nE _ _ _ (by rw[hk,hk])]
 |x::l,i+1,h,y=>by
  rw[List.set_cons_succ,F_,F_,pi enc k hk l i (by simpa using h) y,show (i+1)*k=(enc x).length+i*k by rw[hk,Nat.add_mul];omega,gn]
theorem kz:∀(vs:List Value) {w:World} {base g n cap size:Nat} {e:TypeId} {xs:List Value} (o:Nat),w.ownsRow base e size (s_ g 0 n cap) n xs->(rV w g o vs).ownsRow base e size (s_ g 0 n cap) n (fD xs o vs)/\w.grownBy (rV w g o vs) (some g)
 |[],w,_,g,_,_,_,_,_,_,h=>⟨h,World.grownBy.refl _ _⟩
 |v::vs,w,_,g,_,_,_,_,_,o,h=>by
  obtain⟨h1,h2⟩:=h.stored o v
  obtain⟨a,b⟩:=kz vs (o+1) h1
  exact⟨a,h2.trans b⟩
theorem vE {g:Nat}{zs:List Sv}(h:w.ownsRow base 170 7 (s_ g 0 zs.length cap) zs.length (zs.flatMap cSg))(hi:i<zs.length)(y:Sv):(rV w g (i*7) (cSg y)).ownsRow base 170 7 (s_ g 0 zs.length cap) zs.length ((zs.set i y).flatMap cSg)/\w.grownBy (rV w g (i*7) (cSg y)) (some g):=by
 rw[pi cSg 7 (λ_=>rfl) zs i hi y];exact kz (cSg y) (i*7) h
theorem aS.setSegs {t:Nat}(h:aS w0 w nb n0 c s z)(hO:ai w w' λk=>k=nb\/z.sv.ownBlock=some k)(hB:Bx w' nb 163 (dS c z.tip z.mv z.idv z.qv z.sv z.ov s.acked b t))(hrow:w'.ownsRow w0.heap.size 170 7 z.sv zs'.length (zs'.flatMap cSg))(hs:∀y∈zs',dC w0 w (s.top n0) y/\∀b,y.lv.ownBlock=some b->z.qv.ownBlock≠some b):
 aS w0 w' nb n0 c {s with segs:=zs'.map Sv.x,begun:=b,now:=t} {z with zs:=zs'}:=by
 have K:aM w w' [163,170]:=aM.of_only hO λk a=>by
  rcases a with rfl|a
  ·exact⟨_,by simp,h.box.ty⟩
  exact⟨170,by simp,aV h.srow a⟩
 refine⟨eJ h.below hO λk a=>?_,h.low,hB,h.tip.keptT K (by decide) (b_ _),h.mfst,K.row h.mrow (by decide),λy hy=>⟨K.sl (h.mids y hy).1 (by decide),(h.mids y hy).2⟩,K.row h.ids (by decide),h.qs,K.row h.row (by decide),h.eds,rfl,hrow,λy hy=>?_,K.row h.outs (by decide)⟩
 ·rcases a with rfl|a
  ·exact h.low
  exact(f_ h.srow k a).1
 obtain⟨d,e⟩:=hs y hy;exact⟨d.kept (λb hb=>K.same _ _ (d.l.row.ty hb) (by decide)) (λb hb=>K.same _ _ hb (by decide)) (b_ _),e⟩
def aW (f:Sv->Sv)(l:List Sv)(i:Nat):List Sv:=(l.take i).map f++l.drop i
theorem iT (f:Sv->Sv)(l:List Sv):aW f l 0=l:=by simp[aW]
theorem bf (f:Sv->Sv)(l:List Sv)(i:Nat):(aW f l i).length=l.length:=by
 simp[aW];omega
theorem bV (f:Sv->Sv)(l:List Sv){i:Nat}(h:i<l.length):(aW f l i)[i]'(by rw[bf];exact h)=l[i]:=by
 simp only[aW];rw[List.getElem_append_right (by simp;omega)];simp[U_ (Nat.le_of_lt h)]
theorem dQ (f:Sv->Sv)(l:List Sv){i:Nat}(h:i<l.length):(aW f l i).set i (f l[i])=aW f l (i+1):=by
 have a:((l.take i).map f).length=i:=by simp;omega
 show ((l.take i).map f++l.drop i).set i (f l[i])=(l.take (i+1)).map f++l.drop (i+1);rw[List.set_append_right _ _ (by omega),a,Nat.sub_self,M_ h,List.set_cons_zero,g_ h,w_,A_];rfl
theorem jN (f:Sv->Sv)(l:List Sv){i:Nat}(h:l.length<=i):aW f l i=l.map f:=by
 simp[aW,m_ h,List.drop_eq_nil_of_le h]
def Sv.renew (y:Sv):Sv:=cx y.x.l y.lv y.cl
theorem Sv.renew_is (h:dC w0 w N y):dC w0 w N y.renew:=⟨h.l,⟨_,_,_,rfl⟩,λj hj=>by cases hj⟩
theorem vD (ys:List Sv):(ys.map Sv.renew).map Sv.x=(ys.map Sv.x).map Sm.renew:=by
 rw[y_,y_];rfl
theorem wU {m:List Sm}{zz ys:List Sv}{cl:List Rd}{vA vB:Value}{hf:Nat}(hso:so=s.outs)(hz:zz=[cx ((cl.take hf).map Prod.fst) vA (cl.take hf),cx ((cl.drop hf).map Prod.fst) vB (cl.drop hf)]++ys)(hys:ys.map Sv.x=m)(hcl:cl.map Prod.fst=f.l)(hfl:1<f.l.length)(hhf:hf=(f.l.length+1)/2):
 ({s with outs:=so,segs:=(zz.map Sv.renew).map Sv.x}:Ts)=s.blame f m:=by
 have a:(zz.map Sv.renew).map Sv.x=Sm.new (f.l.take hf)::Sm.new (f.l.drop hf)::m.map Sm.renew:=by
  rw[vD,hz,w_,w_,hys,List.map_take,List.map_drop,hcl];rfl
 rw[a,hso,Ts.blame,if_pos hfl,<-hhf];rfl
theorem wT {m:List Sm}{ys:List Sv}{x:Cg}(hso:so=s.outs++[(id,2)])(hys:ys.map Sv.x=m)(hf:f.l=[x])(hid:id=x.1):
 ({s with outs:=so,segs:=(ys.map Sv.renew).map Sv.x}:Ts)=s.blame f m:=by
 have a:¬1<f.l.length:=by rw[hf];simp
 rw[vD,hys,hso,Ts.blame,if_neg a,hf,hid];rfl
end
end Go.Proofs.YtgamgomepdfgdaaGreat
