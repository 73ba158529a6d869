import Derived.Test.YtgamgomepdfgdaaGreatAM26
set_option maxRecDepth 100000
set_option maxHeartbeats 8000000
namespace Go.Proofs.YtgamgomepdfgdaaGreat
open Go.RowKit Go.Proofs.Tryz
section
variable{es:List Ed}{N base cap:Nat}{G G' S:Nat->Prop}{Q:Pq}{σ τ:Sg}{v:Value}{w w':World}
theorem ar.other (h:ar w Q G' σ τ N)(hG:∀k,G k->G' k)(hw:G Q.wb)(hO:ai w w' S)(hS:∀k,S k->G' k/\¬G k):ar w' Q G σ τ N:=by
 obtain⟨X,R,K,h⟩:=h;have a:=hO.size;exact⟨X,R,K,h.box.kept hO λe=>(hS _ e).2 hw,h.p.only hO λk hX e=>(h.gg k (hS k e).1).1 hX,h.r.only hO λk hR e=>(h.gg k (hS k e).1).2.1 hR,h.b.only hO λk hK e=>(h.gg k (hS k e).1).2.2.1 hK,h.xr,h.xk,h.rk,λk hk=>⟨(h.gg k (hG k hk)).1,(h.gg k (hG k hk)).2.1,(h.gg k (hG k hk)).2.2.1,h_ (h.gg k (hG k hk)).2.2.2 a⟩,hw,h.okp,h.okr⟩
theorem iy {l:List Ed}(h:aH w v l)(hs:w.heap.size<=w'.heap.size)(hk:0<l.length->∀b,v.ownBlock=some b->w'.heap[b]? =w.heap[b]?):aH w' v l:=by
 rcases h with h|⟨b,d,a,rfl,f,g,j,k⟩
 ·exact .inl h
 by_cases h0:l.length=0
 ·obtain rfl:=I_ h0;exact .inl ⟨rfl,_,_,rfl⟩
 have e:=hk (by omega) b rfl;have c:∀{o:Nat} {u:Value},w.cell? ⟨b,o,none⟩=some u->w'.cell? ⟨b,o,none⟩=some u:=λhv=>(L_ (w:=w) e).trans hv;exact .inr ⟨b,d,a,rfl,h_ f hs,λi hi=>c (g i hi),λi hi=>c (j i hi),λi hi=>c (k i hi)⟩
theorem aH.head {g:Nat}{ms:List Ed}(h:w.ownsRow base 49 3 (s_ g 0 (es++ms).length cap) (es++ms).length ((es++ms).flatMap cE)):aH w (s_ g 0 es.length cap) es:=by
 have a:=(Sl.of_row h).cut (k:=es.length) (by rw[a_];omega)
 have e:((es++ms).flatMap cE).take (es.length*3)=es.flatMap cE:=by
  rw[r_,<-aR cE 3 (λ_=>rfl) es,List.take_left]
 rw[e] at a;by_cases h0:es.length=0
 ·obtain rfl:=I_ h0;exact .inl ⟨rfl,_,_,rfl⟩
 have b:∀i (hi:i<es.length) j (u:Value),j<3->(cE es[i])[j]? =some u->w.cell? ⟨g,0+i*3+j,none⟩=some u:=λi hi j u hj hu=>by
  have:=a.cell (j:=i*3+j) (u:=u) (by rw[aq cE 3 (λ_=>rfl) es i j hi hj];exact hu);rw[J_];exact this
 exact .inr ⟨g,0,cap,rfl,a.lt rfl,λi hi=>b i hi 0 _ (by decide) rfl,λi hi=>b i hi 1 _ (by decide) rfl,λi hi=>b i hi 2 _ (by decide) rfl⟩
theorem Bw (Q:Pq)(hQ:Q.Ok)(G:Nat->Prop)(σ:Sg)(N:Nat)(kind id lane err:Int)(pass:Bool)(es:List Ed)(ea:Option Addr)(ec:Nat)(w:World)(h:ar w Q G σ σ N)(hn:σ.rs.length<1048576)(he:dc Q.c (Ts.all Q.c Q.g σ.rs) id lane es err)(hE:aH w (.slice ea es.length ec) es)(hG:0<es.length->∀b,(Value.slice ea es.length ec).ownBlock=some b->G b)(hen:Hid ((es.length+80)*48<=140737488355328))(hln:es.length<8796093022208):
 c_ 39 #[Px Q.wb,.agg #[I kind,I id,I lane,.bool pass,.slice ea es.length ec]] w λe w'=>e=.returned (.bool true)/\ar w' Q G (σ.sub id lane es err).2 (σ.sub id lane es err).2 N/\ax w w' G:=by
 obtain⟨W0,hW0⟩:∃W0,W0=w.alloc (.cells #[I kind,I id,I lane,.bool pass,.slice ea es.length ec] 29):=⟨_,rfl⟩;have hB0:Bl w W0:=by rw[hW0];exact af _ _
 have X0:Bx W0 w.heap.size 29 #[I kind,I id,I lane,.bool pass,.slice ea es.length ec]:=by rw[hW0];exact Bx.new _ _ _
 have hs0:W0.heap.size=w.heap.size+1:=by rw[hW0];simp
 have hL:=pq es ea ec W0 (hE.later hB0) hen hln;have x0:=X0.c 4 (.slice ea es.length ec);have HP:=hd h;have HE:=hd hE;have HX0:=hd X0;have HB0:=hd hB0;have b0:=h.box.c 0 (Px Q.xb);have b1:=h.box.c 1 (Px Q.yb);clear h hE X0 hB0;go_enter func39,ntmps39;rw[hW0] at hL x0;go_wp2_with fail;go_fit hL;rintro e w1 ⟨⟨g,rfl,hrow⟩,hb1⟩;rw[<-hW0] at hrow hb1;have hbw:=aj HB0.out hb1;have X1:=HX0.out.later hb1;have a1:=X1.c 1 (I id);have a2:=X1.c 2 (I lane);have a4:=X1.c 4 (.slice ea es.length ec);have c0:=ae hbw b0;have c1:=ae hbw b1;have hgl:=f_ hrow g rfl;have hok:=HP.out.okp.act hQ.c λh0=>(ko he h0).1;have HW:=hd (HP.out.widen hbw);have HBw:=hd hbw;have HRow:=hd hrow;have Gg:Hid (aX G w w1 g):=.inr ⟨by omega,hgl.2⟩;have Ga:Hid (aX G w w1 w.heap.size):=.inr ⟨b_ _,by have:=hb1.size;omega⟩;have Gw:Hid (aX G w w1 Q.wb):=.inl HP.out.gw;have HEk:Hid (∀W,ax w1 W (aX G w w1)->aH W (.slice ea es.length ec) es):=λW hk=>iy (HE.out.later HBw.out) hk.size λh0 b hb=>hk.block b (h_ (HP.out.gl b (hG h0 b hb)) HBw.out.size) λhn=>hn (.inl (hG h0 b hb));have HY:Hid (∀W,Bl w1 W->c_ 87 #[Px Q.yb,I id,I lane,.slice ea es.length ec] W λe w'=>e=.returned (I (σ.sub id lane es err).1)/\ar w' Q (aX G w w1) σ (σ.sub id lane es err).2 N/\ax W w' (aX G w w1)):=λW hb=>(HW.out.later hb).doR hok λR hR=>Bm R Q.yb Q.c σ Q.fv Q.ss id lane err es ea ec W hR Q.g Q.n hQ.ss HP.out.okr hQ.c hn he (HEk.out W (ax.of_below hb)) hln;have hHead:∀W,ax w1 W (aX G w w1)->aH W (s_ g 0 es.length (es.length+2)) es:=λW hk=>iy (aH.head (ms:=[((di,⟨#[]⟩,⟨#[]⟩):Ed),((di,⟨#[]⟩,⟨#[]⟩):Ed)]) (by rw[a_];exact HRow.out)) hk.size λ_ b hb=>hk.block b (by cases hb;exact hgl.2) λhn=>hn (by cases hb;exact Gg.out);have HX:Hid (∀W,ax w1 W (aX G w w1)->ar W Q (aX G w w1) σ (σ.sub id lane es err).2 N->c_ 31 #[Px Q.xb,I id,I lane,s_ g 0 es.length (es.length+2)] W λe w'=>e=.returned (I (σ.sub id lane es err).1)/\ar w' Q (aX G w w1) (σ.sub id lane es err).2 (σ.sub id lane es err).2 N/\ax W w' (aX G w w1)):=λW hk hP=>hP.doP hok λX hX hGX=>Ba X Q.xb Q.c σ Q.n Q.g id lane err es _ _ W hX hP.okp hQ.c hn he (hHead W hk) (by omega) hln λb hb=>by cases hb;exact hGX g Gg.out
 clear hL hrow hb1 X1 x0 hW0 b0 b1 hok hHead he hG;generalize hτ:(σ.sub id lane es err).2=τ at *;have Hτ:=hd hτ;clear hτ;generalize (σ.sub id lane es err).1=k at *;go_wp2_with fail;have hy:=HY.out w1.drew ⟨rfl,rfl,rfl,b_ _,λ_ _=>rfl⟩;generalize Q.wb=wb at *;generalize Q.yb=yb at *;generalize Q.xb=xb at *;clear HY;go_cut [7] from 8 (λt wz=>t=I k/\ar wz Q (aX G w w1) σ τ N/\ax w1 wz (aX G w w1))
 case first=>
  go_region_held_law (λw'=>w'.cell? ⟨wb,1,none⟩=some (Px yb)/\w'.cell? ⟨w.heap.size,1,none⟩=some (I id)/\w'.cell? ⟨w.heap.size,2,none⟩=some (I lane)/\w'.cell? ⟨w.heap.size,4,none⟩=some (.slice ea es.length ec)) (go_keep) ((go_at_call 87;refine hy.mono ?_;rintro e w2 ⟨rfl,hP2,hK2⟩;have c12:=hK2.cell Gw.out c1;have a12:=hK2.cell Ga.out a1;have a22:=hK2.cell Ga.out a2;have a42:=hK2.cell Ga.out a4;have HP2:=hd hP2;have HK2:Hid (ax w1 w2 (aX G w w1)):=ai.drew hK2;clear hP2 hK2))
  all_goals
   go_wp2_with fail;go_meet
   case rel=>exact⟨rfl,HP2.out,HK2.out⟩
 obtain⟨rfl,hPz,hKz⟩:=hcut;rename World=>wz;have HKz:=hd hKz;have hx:=HX.out wz.drew ⟨hKz.os,hKz.tape,hKz.output,hKz.size,hKz.block⟩ (hPz.later ⟨rfl,rfl,rfl,b_ _,λ_ _=>rfl⟩);have d0:=hKz.cell Gw.out c0;have e1:=hKz.cell Ga.out a1;have e2:=hKz.cell Ga.out a2;clear hy HX hPz hKz c0 c1 a1 a2;go_wp2_with fail;go_cut [8] from 9 (λt wy=>t=I k/\ar wy Q (aX G w w1) τ τ N/\ax w1 wy (aX G w w1))
 case first=>
  go_region_held_law (λw'=>w'.cell? ⟨wb,0,none⟩=some (Px xb)/\w'.cell? ⟨w.heap.size,1,none⟩=some (I id)/\w'.cell? ⟨w.heap.size,2,none⟩=some (I lane)) (go_keep) ((go_at_call 31;refine hx.mono ?_;rintro e w2 ⟨rfl,hP2,hK2⟩;have c12:=hK2.cell Gw.out d0;have a12:=hK2.cell Ga.out e1;have a22:=hK2.cell Ga.out e2;have HP2:=hd hP2;have HK2:Hid (ax w1 w2 (aX G w w1)):=HKz.out.trans (ai.drew hK2);clear hP2 hK2))
  all_goals
   go_wp2_with fail;go_meet
   case rel=>exact⟨rfl,HP2.out,HK2.out⟩
 obtain⟨rfl,hPy,hKy⟩:=hcut;rename World=>wy;have HPy:=hd hPy;have HKy:=hd hKy;have f4:=hKy.cell Ga.out a4
 have HRy:Hid (wy.ownsRow W0.heap.size 49 3 (s_ g 0 (es.length+2) (es.length+2)) (es.length+2) ((es++[((di,⟨#[]⟩,⟨#[]⟩):Ed),((di,⟨#[]⟩,⟨#[]⟩):Ed)]).flatMap cE)):=by
  refine⟨HRow.out.1,?_⟩;rcases HRow.out.2 with h'|⟨g',cap',cur,e',hb',hh,hr'⟩
  ·exact .inl h'
  refine .inr ⟨g',cap',cur,e',hb',(hKy.block g' (j_.1 hh).1 λhn=>hn ?_).trans hh,hr'⟩;obtain⟨e1,_,_⟩:=Value.slice.inj e';cases e1
  exact Gg.out
 have hL2:=pq es ea ec wy (HEk.out wy hKy) hen hln;clear hx hPy hKy d0 e1 e2 a4;go_wp2_with fail;go_fit hL2;rintro e w3 ⟨⟨g2,rfl,hrow2⟩,hb3⟩;have hlen:(es++[((di,⟨#[]⟩,⟨#[]⟩):Ed),((di,⟨#[]⟩,⟨#[]⟩):Ed)]).length=es.length+2:=by rw[a_];rfl
 have E1:aH wy (s_ g 0 (es.length+2) (es.length+2)) (es++[((di,⟨#[]⟩,⟨#[]⟩):Ed),((di,⟨#[]⟩,⟨#[]⟩):Ed)]):=aH.of_row (base:=W0.heap.size) (e:=49) (by rw[hlen];exact HRy.out);have E2:aH w3 (s_ g2 0 (es.length+2) (es.length+2)) (es++[((di,⟨#[]⟩,⟨#[]⟩):Ed),((di,⟨#[]⟩,⟨#[]⟩):Ed)]):=aH.of_row (base:=wy.heap.size) (e:=49) (by rw[hlen];exact hrow2);have hS:=ot _ _ _ _ w3 (E1.later hb3) E2 (by rw[hlen];have:=hen.out;omega);have HB3:=hd hb3;clear hL2 hrow2 hb3 E1 E2 hlen;go_wp2_with fail;go_fit hS;rintro e w4 ⟨⟨r,rfl,hr⟩,m,rfl⟩;obtain rfl:r=true:=hr.2 (by first|rfl|trivial);have HB4:Hid (Bl wy (w3.drewN m)):=⟨HB3.out.os,HB3.out.tape,HB3.out.output,HB3.out.size,HB3.out.block⟩;generalize w3.drewN m=w4 at *;have HR4:=hd (t_ HRy.out (cO HB4.out) (Classical.em _));obtain⟨i0,hi,hz0,hz1,hz2⟩:=info_parts qA;have hsz:(prog.info? 49).map (·.size)=some 3:=by rw[hi];simp[hz1]
 clear hS hr f4 HRow HRy HB3;go_wp2_with fail;go_loopw [10] (λiv wr=>∃i:Nat,i<=es.length/\iv=I i/\Hid (∃xs,wr.ownsRow W0.heap.size 49 3 (s_ g 0 (es.length+2) (es.length+2)) (es.length+2) xs)/\Hid (ai w4 wr (λq=>q=g))) (λi _=>es.length-(intOf i).toNat)
 case atStart=>exact⟨0,k_ _,rfl,⟨_,HR4.out⟩,ai.refl _ _⟩
 obtain⟨i,hin,rfl,⟨xs,hrow⟩,hO⟩:=hrel;by_cases hlt:i<es.length
 ·have Hrow:=hd hrow;have Hfit:Hid (i*3+3<=xs.length):=by show _<=_;rw[hrow.1];omega
  clear hrow;go_wp2_with (first|(go_at_call 89;refine(mK _).mono ?_;rintro e w' ⟨rfl,rfl⟩)|(refine aZ _ rfl _ _ _ rfl W0.heap.size _ 3 _ _ _ _ _ (p_ Hrow.out _) rfl [.string di,.string ⟨#[]⟩,.string ⟨#[]⟩] rfl hsz Hfit.out (by simp[Value.oneCell']) ?_;intro w5 hrow5 hg5));refine⟨⟨i+1,hlt,by go_num,⟨_,hrow5⟩,?_⟩,by simp[intOf];omega⟩;exact(hO.out.trans (ai.of_below (S:=λ_=>False) (af _ _)) λ_ h=>h.elim).trans (ai.of_grown (S:=λq=>q=g) hg5 λq e=>by cases e;rfl) λ_ h=>.inl h
 go_wp2_with fail;go_ret;have hgG:¬G g:=λh=>by have:=HP.out.gl g h;omega
 have gsub:∀q,G q->aX G w w1 q:=λq hq=>.inl hq;have hPl:=(HPy.out.later HB4.out).other (G:=G) gsub HP.out.gw hO.out λq hq=>by rw[hq];exact⟨Gg.out,hgG⟩
 refine⟨rfl,by rw[Hτ.out];exact hPl,?_⟩;have k1:=(ax.of_below HBw.out).trans (HKy.out.mono gsub);have k2:=k1.trans (ax.of_below HB4.out);exact k2.trans (hO.out.mono λq hq hG=>hgG (by rw[<-hq];exact hG))
variable{g:ByteArray->ByteArray}{c:Cfg}
theorem Sg.write_len (σ:Sg)(r:Rc):(σ.write r).2.rs.length<=σ.rs.length+1:=by
 unfold Sg.write;split
 ·simp
 show (if _ then _ else _:Sg).rs.length<=_;split<;>simp
theorem Sg.act_len (σ:Sg)(err:Int)(r:Rc):(σ.act err r).2.rs.length<=σ.rs.length+1:=by
 unfold Sg.act;split
 ·simp
 split
 ·simp
 exact σ.write_len r
theorem Sg.brk_len (σ:Sg)(k:Int):(σ.brk k).2.rs.length<=σ.rs.length+1:=by
 unfold Sg.brk;split<;>simp
theorem Sg.crash_len (σ:Sg):σ.crash.2.rs.length<=σ.rs.length+1:=by
 unfold Sg.crash;split<;>simp
theorem Sg.recover_len (σ:Sg):σ.recover.2.rs.length<=σ.rs.length+1:=by
 unfold Sg.recover;split<;>simp
theorem Sg.Ok.brk (h:σ.Ok c g)(k:Int):(σ.brk k).2.Ok c g:=by
 unfold Sg.brk;split
 ·exact h
 rename_i hu;exact⟨h.fits,h.torn,h.upT,λh'=>absurd h' hu⟩
theorem Sg.Ok.crash (h:σ.Ok c g):σ.crash.2.Ok c g:=by
 unfold Sg.crash;split
 ·exact h
 exact⟨h.fits,kj,λ_=>rfl,λ_=>rfl⟩
theorem Fp (c:Cfg)(s:Ts):s.Can c rc7:=⟨by decide,by decide,λh=>(by cases h),λh=>(by cases h),λh=>(by cases h),λh=>(by cases h),λh=>(by cases h)⟩
theorem Sg.Ok.recover (h:σ.Ok c g):σ.recover.2.Ok c g:=by
 unfold Sg.recover;split
 ·exact⟨.snoc h.fits (Fp _ _),kj,λ_=>rfl,λh'=>(by cases h')⟩
 exact h
def bG (w w':World)(e:Ending)(Q:Pq)(G:Nat->Prop)(n N:Nat):Prop:=e=.returned (.bool true)/\(∃σ',ar w' Q G σ' σ' N/\σ'.rs.length<=n)/\ax w w' G
theorem ar.both {f f':Nat}{xs ys:Array Value}{a:Int×Sg}(h:ar w Q G σ σ N)(ha:a.2.Ok Q.c Q.g)(hx:∀W X,bd W X Q.xb Q.c σ Q.n Q.g->c_ f xs W λe w'=>ki W w' e X Q.xb Q.c Q.n Q.g a)(hy:∀W R,bi W R Q.yb Q.c σ Q.fv Q.ss->c_ f' ys W λe w'=>fZ W w' e R Q.yb Q.c Q.fv Q.ss a):
 ∃τ k,ar w Q G σ σ N/\τ=a.2/\(∀W,ar W Q G σ σ N->c_ f xs W λe w'=>e=.returned (I k)/\ar w' Q G τ σ N/\ax W w' G)/\(∀W,ar W Q G τ σ N->c_ f' ys W λe w'=>e=.returned (I k)/\ar w' Q G τ τ N/\ax W w' G):=
 ⟨a.2,a.1,h,rfl,λW hW=>hW.doP ha λX hX _=>hx W X hX,λW hW=>hW.doR ha λR hR=>hy W R hR⟩
theorem Eu (Q:Pq)(hQ:Q.Ok)(G:Nat->Prop)(σ:Sg)(N:Nat)(id lane:Int)(pass:Bool)(ea:Option Addr)(en ec:Nat)(w:World)(h:ar w Q G σ σ N)(hn:σ.rs.length<1048576):
 c_ 13 #[Px Q.wb,.agg #[I 2,I id,I lane,.bool pass,.slice ea en ec]] w λe w'=>bG w w' e Q G (σ.rs.length+1) N:=by
 have r:=h.widen (af w (.cells #[I 2,I id,I lane,.bool pass,.slice ea en ec] 29))
 obtain⟨τ,k,S,P,u⟩:∃τ k,τ.rs.length<=σ.rs.length+1/\(∀W,ar W Q (aX G w (w.alloc (.cells #[I 2,I id,I lane,.bool pass,.slice ea en ec] 29))) σ σ N->c_ 40 #[Px Q.xb,I id] W λe w'=>e=.returned (I k)/\ar w' Q (aX G w (w.alloc (.cells #[I 2,I id,I lane,.bool pass,.slice ea en ec] 29))) τ σ N/\ax W w' (aX G w (w.alloc (.cells #[I 2,I id,I lane,.bool pass,.slice ea en ec] 29))))/\(∀W,ar W Q (aX G w (w.alloc (.cells #[I 2,I id,I lane,.bool pass,.slice ea en ec] 29))) τ σ N->c_ 41 #[Px Q.yb,I id] W λe w'=>e=.returned (I k)/\ar w' Q (aX G w (w.alloc (.cells #[I 2,I id,I lane,.bool pass,.slice ea en ec] 29))) τ τ N/\ax W w' (aX G w (w.alloc (.cells #[I 2,I id,I lane,.bool pass,.slice ea en ec] 29)))):=by
  obtain⟨l,F⟩:=AZ (Ts.all Q.c Q.g σ.rs) id;obtain⟨τ,k,a1,Y,Z,a4⟩:=r.both (a:=σ.cancel id l) (h.okp.act hQ.c λh0=>(km F (h.okp.fits.inv hQ.c).1 h0).1) (λW X hX=>A8 X Q.xb Q.c σ Q.n Q.g id l W hX h.okp hQ.c hn F) (λW R hR=>Bn R Q.yb Q.c σ Q.fv Q.ss id l W hR Q.g Q.n hQ.ss h.okr hQ.c hn F);exact⟨τ,k,by rw[Y];exact σ.act_len _ _,Z,a4⟩
 have z:Hid (Bl w (w.alloc (.cells #[I 2,I id,I lane,.bool pass,.slice ea en ec] 29))):=af _ _;have C:=Bx.new w #[I 2,I id,I lane,.bool pass,.slice ea en ec] 29;have y:Hid (aX G w (w.alloc (.cells #[I 2,I id,I lane,.bool pass,.slice ea en ec] 29)) Q.wb):=.inl h.gw;have x:Hid (aX G w (w.alloc (.cells #[I 2,I id,I lane,.bool pass,.slice ea en ec] 29)) w.heap.size):=.inr ⟨b_ _,by simp⟩;have U:Hid (∀W,ar W Q (aX G w (w.alloc (.cells #[I 2,I id,I lane,.bool pass,.slice ea en ec] 29))) τ τ N->ar W Q G τ τ N):=λW hW=>hW.fewer (λ_ h=>.inl h) h.gw;have M:=r.box.c 0 (Px Q.xb);have O:=r.box.c 1 (Px Q.yb);have x0:=C.c 0 (I 2);have K:=C.c 1 (I id);have V:=hd S;have s:=P (w.alloc (.cells #[I 2,I id,I lane,.bool pass,.slice ea en ec] 29)).drew (r.later ⟨rfl,rfl,rfl,b_ _,λ_ _=>rfl⟩);have L:=hd u;clear h hQ S C P u r;unfold bG;go_enter func13,ntmps13;go_wp2_with fail;generalize w.alloc (.cells #[I 2,I id,I lane,.bool pass,.slice ea en ec] 29)=v at *;generalize Q.wb=T at *;generalize Q.xb=xb at *;generalize Q.yb=yb at *;generalize o:aX G w v=m at *;have A:=hd o;clear x0 o;go_cut [5] from 7 (λt wz=>t=I k/\ar wz Q m τ σ N/\ax v wz m)
 case first=>
  go_region_held_law (λw'=>w'.cell? ⟨T,0,none⟩=some (Px xb)/\w'.cell? ⟨w.heap.size,1,none⟩=some (I id)) (go_keep) ((go_at_call 40;refine s.mono ?_;rintro e J ⟨rfl,d,b⟩;have E:=b.cell y.out M;have D:=b.cell x.out K;have j:=hd d;have i:Hid (ax v J m):=ai.drew b;clear d b))
  all_goals
   go_wp2_with fail;go_meet
   case rel=>exact⟨rfl,j.out,i.out⟩
 obtain⟨rfl,p,f⟩:=hcut;rename World=>wz;have B:=hd f;have u:=L.out wz.drew (p.later ⟨rfl,rfl,rfl,b_ _,λ_ _=>rfl⟩);have d1:=f.cell y.out O;have e1:=f.cell x.out K;clear s L p f M O K;go_wp2_with fail;go_region_held_law (λw'=>w'.cell? ⟨T,1,none⟩=some (Px yb)/\w'.cell? ⟨w.heap.size,1,none⟩=some (I id)) (go_keep) ((go_at_call 41;refine u.mono ?_;rintro e J ⟨rfl,d,b⟩;have E:=b.cell y.out d1;have D:=b.cell x.out e1;have j:=hd d;have i:Hid (ax v J m):=B.out.trans (ai.drew b);clear d b))
 all_goals
  go_wp2_with fail;go_ret;have H:∀q,G q->m q:=λq hq=>by rw[<-A.out];exact .inl hq
  exact⟨rfl,⟨τ,U.out _ j.out,V.out⟩,(ax.of_below z.out).trans (i.out.mono H)⟩
theorem Ev (Q:Pq)(G:Nat->Prop)(σ:Sg)(N:Nat)(id lane:Int)(pass:Bool)(ea:Option Addr)(en ec:Nat)(w:World)(h:ar w Q G σ σ N):
 c_ 13 #[Px Q.wb,.agg #[I 9,I id,I lane,.bool pass,.slice ea en ec]] w λe w'=>bG w w' e Q G (σ.rs.length+1) N:=by
 have p:=h.widen (af w (.cells #[I 9,I id,I lane,.bool pass,.slice ea en ec] 29))
 obtain⟨τ,k,O,M,s⟩:∃τ k,τ.rs.length<=σ.rs.length+1/\(∀W,ar W Q (aX G w (w.alloc (.cells #[I 9,I id,I lane,.bool pass,.slice ea en ec] 29))) σ σ N->c_ 29 #[Px Q.xb,I id] W λe w'=>e=.returned (I k)/\ar w' Q (aX G w (w.alloc (.cells #[I 9,I id,I lane,.bool pass,.slice ea en ec] 29))) τ σ N/\ax W w' (aX G w (w.alloc (.cells #[I 9,I id,I lane,.bool pass,.slice ea en ec] 29))))/\(∀W,ar W Q (aX G w (w.alloc (.cells #[I 9,I id,I lane,.bool pass,.slice ea en ec] 29))) τ σ N->c_ 49 #[Px Q.yb,I id] W λe w'=>e=.returned (I k)/\ar w' Q (aX G w (w.alloc (.cells #[I 9,I id,I lane,.bool pass,.slice ea en ec] 29))) τ τ N/\ax W w' (aX G w (w.alloc (.cells #[I 9,I id,I lane,.bool pass,.slice ea en ec] 29)))):=by
  obtain⟨τ,k,a1,U,V,Y⟩:=p.both (a:=σ.brk id) (h.okp.brk id) (λW X hX=>CA X Q.xb Q.c σ Q.n Q.g id W hX) (λW R hR=>CL R Q.yb Q.c σ Q.fv Q.ss id W hR);exact⟨τ,k,by rw[U];exact σ.brk_len _,V,Y⟩
 have y:Hid (Bl w (w.alloc (.cells #[I 9,I id,I lane,.bool pass,.slice ea en ec] 29))):=af _ _;have B:=Bx.new w #[I 9,I id,I lane,.bool pass,.slice ea en ec] 29;have x:Hid (aX G w (w.alloc (.cells #[I 9,I id,I lane,.bool pass,.slice ea en ec] 29)) Q.wb):=.inl h.gw;have v:Hid (aX G w (w.alloc (.cells #[I 9,I id,I lane,.bool pass,.slice ea en ec] 29)) w.heap.size):=.inr ⟨b_ _,by simp⟩;have S:Hid (∀W,ar W Q (aX G w (w.alloc (.cells #[I 9,I id,I lane,.bool pass,.slice ea en ec] 29))) τ τ N->ar W Q G τ τ N):=λW hW=>hW.fewer (λ_ h=>.inl h) h.gw;have K:=p.box.c 0 (Px Q.xb);have L:=p.box.c 1 (Px Q.yb);have x0:=B.c 0 (I 9);have H:=B.c 1 (I id);have T:=hd O;have r:=M (w.alloc (.cells #[I 9,I id,I lane,.bool pass,.slice ea en ec] 29)).drew (p.later ⟨rfl,rfl,rfl,b_ _,λ_ _=>rfl⟩);have J:=hd s;clear h O B M s p;unfold bG;go_enter func13,ntmps13;go_wp2_with fail;generalize w.alloc (.cells #[I 9,I id,I lane,.bool pass,.slice ea en ec] 29)=u at *;generalize Q.wb=P at *;generalize Q.xb=xb at *;generalize Q.yb=yb at *;generalize m:aX G w u=l at *;have z:=hd m;clear x0 m;go_cut [5] from 7 (λt wz=>t=I k/\ar wz Q l τ σ N/\ax u wz l)
 case first=>
  go_region_held_law (λw'=>w'.cell? ⟨P,0,none⟩=some (Px xb)/\w'.cell? ⟨w.heap.size,1,none⟩=some (I id)) (go_keep) ((go_at_call 29;refine r.mono ?_;rintro e F ⟨rfl,d,b⟩;have D:=b.cell x.out K;have C:=b.cell v.out H;have j:=hd d;have i:Hid (ax u F l):=ai.drew b;clear d b))
  all_goals
   go_wp2_with fail;go_meet
   case rel=>exact⟨rfl,j.out,i.out⟩
 obtain⟨rfl,o,f⟩:=hcut;rename World=>wz;have A:=hd f;have s:=J.out wz.drew (o.later ⟨rfl,rfl,rfl,b_ _,λ_ _=>rfl⟩);have Z:=f.cell x.out L;have e1:=f.cell v.out H;clear r J o f K L H;go_wp2_with fail;go_region_held_law (λw'=>w'.cell? ⟨P,1,none⟩=some (Px yb)/\w'.cell? ⟨w.heap.size,1,none⟩=some (I id)) (go_keep) ((go_at_call 49;refine s.mono ?_;rintro e F ⟨rfl,d,b⟩;have D:=b.cell x.out Z;have C:=b.cell v.out e1;have j:=hd d;have i:Hid (ax u F l):=A.out.trans (ai.drew b);clear d b))
 all_goals
  go_wp2_with fail;go_ret;have E:∀q,G q->l q:=λq hq=>by rw[<-z.out];exact .inl hq
  exact⟨rfl,⟨τ,S.out _ j.out,T.out⟩,(ax.of_below y.out).trans (i.out.mono E)⟩
theorem Da (Q:Pq)(G:Nat->Prop)(σ:Sg)(N:Nat)(id lane:Int)(pass:Bool)(ea:Option Addr)(en ec:Nat)(w:World)(h:ar w Q G σ σ N):
 c_ 13 #[Px Q.wb,.agg #[I 10,I id,I lane,.bool pass,.slice ea en ec]] w λe w'=>bG w w' e Q G (σ.rs.length+1) N:=by
 have l:=h.widen (af w (.cells #[I 10,I id,I lane,.bool pass,.slice ea en ec] 29))
 obtain⟨τ,k,B,A,o⟩:∃τ k,τ.rs.length<=σ.rs.length+1/\(∀W,ar W Q (aX G w (w.alloc (.cells #[I 10,I id,I lane,.bool pass,.slice ea en ec] 29))) σ σ N->c_ 50 #[Px Q.xb] W λe w'=>e=.returned (I k)/\ar w' Q (aX G w (w.alloc (.cells #[I 10,I id,I lane,.bool pass,.slice ea en ec] 29))) τ σ N/\ax W w' (aX G w (w.alloc (.cells #[I 10,I id,I lane,.bool pass,.slice ea en ec] 29))))/\(∀W,ar W Q (aX G w (w.alloc (.cells #[I 10,I id,I lane,.bool pass,.slice ea en ec] 29))) τ σ N->c_ 51 #[Px Q.yb] W λe w'=>e=.returned (I k)/\ar w' Q (aX G w (w.alloc (.cells #[I 10,I id,I lane,.bool pass,.slice ea en ec] 29))) τ τ N/\ax W w' (aX G w (w.alloc (.cells #[I 10,I id,I lane,.bool pass,.slice ea en ec] 29)))):=by
  obtain⟨τ,k,S,H,J,K⟩:=l.both (a:=σ.crash) h.okp.crash (λW X hX=>yN X Q.xb Q.c σ Q.n Q.g W hX) (λW R hR=>zF R Q.yb Q.c σ Q.fv Q.ss W hR Q.g h.okr);exact⟨τ,k,by rw[H];exact σ.crash_len,J,K⟩
 have p:Hid (Bl w (w.alloc (.cells #[I 10,I id,I lane,.bool pass,.slice ea en ec] 29))):=af _ _;have y:=Bx.new w #[I 10,I id,I lane,.bool pass,.slice ea en ec] 29;have D:Hid (aX G w (w.alloc (.cells #[I 10,I id,I lane,.bool pass,.slice ea en ec] 29)) Q.wb):=.inl h.gw;have E:Hid (∀W,ar W Q (aX G w (w.alloc (.cells #[I 10,I id,I lane,.bool pass,.slice ea en ec] 29))) τ τ N->ar W Q G τ τ N):=λW hW=>hW.fewer (λ_ h=>.inl h) h.gw;have L:=l.box.c 0 (Px Q.xb);have z:=l.box.c 1 (Px Q.yb);have P:=y.c 0 (I 10);have F:=hd B;have m:=A (w.alloc (.cells #[I 10,I id,I lane,.bool pass,.slice ea en ec] 29)) l;have x:=hd o;clear h B y A o l;unfold bG;go_enter func13,ntmps13;go_wp2_with fail;generalize w.alloc (.cells #[I 10,I id,I lane,.bool pass,.slice ea en ec] 29)=M at *;generalize Q.wb=V at *;generalize Q.xb=Y at *;generalize Q.yb=Z at *;generalize d:aX G w M=C at *;have r:=hd d;clear P d;go_fit m;rintro e O ⟨rfl,i,b⟩;have s:=hd b;have o:=x.out O i;have T:=b.cell D.out z;clear m x i b L z;go_wp2_with fail;go_fit o;rintro e U ⟨rfl,j,f⟩;have u:=hd j;have t:=hd (s.out.trans f);clear o j f;go_wp2_with fail;go_ret;have v:∀q,G q->C q:=λq hq=>by rw[<-r.out];exact .inl hq
 exact⟨rfl,⟨τ,E.out _ u.out,F.out⟩,(ax.of_below p.out).trans (t.out.mono v)⟩
theorem Db (Q:Pq)(hQ:Q.Ok)(G:Nat->Prop)(σ:Sg)(N:Nat)(id lane:Int)(pass:Bool)(ea:Option Addr)(en ec:Nat)(w:World)(h:ar w Q G σ σ N)(hn:σ.rs.length<1048576):
 c_ 13 #[Px Q.wb,.agg #[I 11,I id,I lane,.bool pass,.slice ea en ec]] w λe w'=>bG w w' e Q G (σ.rs.length+1) N:=by
 have l:=h.widen (af w (.cells #[I 11,I id,I lane,.bool pass,.slice ea en ec] 29))
 obtain⟨τ,k,B,A,o⟩:∃τ k,τ.rs.length<=σ.rs.length+1/\(∀W,ar W Q (aX G w (w.alloc (.cells #[I 11,I id,I lane,.bool pass,.slice ea en ec] 29))) σ σ N->c_ 32 #[Px Q.xb] W λe w'=>e=.returned (I k)/\ar w' Q (aX G w (w.alloc (.cells #[I 11,I id,I lane,.bool pass,.slice ea en ec] 29))) τ σ N/\ax W w' (aX G w (w.alloc (.cells #[I 11,I id,I lane,.bool pass,.slice ea en ec] 29))))/\(∀W,ar W Q (aX G w (w.alloc (.cells #[I 11,I id,I lane,.bool pass,.slice ea en ec] 29))) τ σ N->c_ 52 #[Px Q.yb] W λe w'=>e=.returned (I k)/\ar w' Q (aX G w (w.alloc (.cells #[I 11,I id,I lane,.bool pass,.slice ea en ec] 29))) τ τ N/\ax W w' (aX G w (w.alloc (.cells #[I 11,I id,I lane,.bool pass,.slice ea en ec] 29)))):=by
  obtain⟨τ,k,S,H,J,K⟩:=l.both (a:=σ.recover) h.okp.recover (λW X hX=>rH X Q.xb Q.c σ Q.n Q.g W hX h.okp hQ.c hn hQ.ss.n) (λW R hR=>sw R Q.yb Q.c σ Q.fv Q.ss W hR Q.g h.okr hn);exact⟨τ,k,by rw[H];exact σ.recover_len,J,K⟩
 have p:Hid (Bl w (w.alloc (.cells #[I 11,I id,I lane,.bool pass,.slice ea en ec] 29))):=af _ _;have y:=Bx.new w #[I 11,I id,I lane,.bool pass,.slice ea en ec] 29;have D:Hid (aX G w (w.alloc (.cells #[I 11,I id,I lane,.bool pass,.slice ea en ec] 29)) Q.wb):=.inl h.gw;have E:Hid (∀W,ar W Q (aX G w (w.alloc (.cells #[I 11,I id,I lane,.bool pass,.slice ea en ec] 29))) τ τ N->ar W Q G τ τ N):=λW hW=>hW.fewer (λ_ h=>.inl h) h.gw;have L:=l.box.c 0 (Px Q.xb);have z:=l.box.c 1 (Px Q.yb);have P:=y.c 0 (I 11);have F:=hd B;have m:=A (w.alloc (.cells #[I 11,I id,I lane,.bool pass,.slice ea en ec] 29)) l;have x:=hd o;clear h hQ B y A o l;unfold bG;go_enter func13,ntmps13;go_wp2_with fail;generalize w.alloc (.cells #[I 11,I id,I lane,.bool pass,.slice ea en ec] 29)=M at *;generalize Q.wb=V at *;generalize Q.xb=Y at *;generalize Q.yb=Z at *;generalize d:aX G w M=C at *;have r:=hd d;clear P d;go_fit m;rintro e O ⟨rfl,i,b⟩;have s:=hd b;have o:=x.out O i;have T:=b.cell D.out z;clear m x i b L z;go_wp2_with fail;go_fit o;rintro e U ⟨rfl,j,f⟩;have u:=hd j;have t:=hd (s.out.trans f);clear o j f;go_wp2_with fail;go_ret;have v:∀q,G q->C q:=λq hq=>by rw[<-r.out];exact .inl hq
 exact⟨rfl,⟨τ,E.out _ u.out,F.out⟩,(ax.of_below p.out).trans (t.out.mono v)⟩
end
end Go.Proofs.YtgamgomepdfgdaaGreat
