import Derived.OwnWalk
import Derived.Test.YtgamgomepdfgdaaGreatEM05
import Derived.Test.YtgamgomepdfgdaaGreatEM02
set_option maxRecDepth 100000
set_option maxHeartbeats 8000000
namespace Go.Proofs.YtgamgomepdfgdaaGreat
open Go.RowKit Go.Proofs.Tryz
def Fresh (w w':World)(v:Value)(l:List UInt8):Prop:=w'.ownsRow w.heap.size 5 1 v l.length (bc l)/\Below w.heap.size w w'
theorem row_low {w:World}{base base':Nat}{e:TypeId}{size:Nat}{v:Value}{n:Nat}{xs:List Value}(h:w.ownsRow base e size v n xs)(hb:base'<=base):w.ownsRow base' e size v n xs:=by
  refine⟨h.1,?_⟩
  rcases h.2 with h|⟨g,cap,cur,h1,h2,h3⟩
  · exact .inl h
  · exact .inr ⟨g,cap,cur,h1,Nat.le_trans hb h2,h3⟩
theorem Fresh.of {w w':World}{o:Obj}{v:Value}{l:List UInt8}(h:App (w.heap.size+1) (w.alloc o) w' (.slice none 0 0) v l):Fresh w w' v l:=by
  refine⟨row_low (Apped.row h) (Nat.le_succ _),?_⟩
  have hg:=Apped.grown h
  have hb:Below (w.alloc o).heap.size (w.alloc o) w':=⟨hg.os,hg.tape,hg.output,hg.size,λk hk=>hg.block k hk (by simp[Value.ownBlock])⟩
  exact below_mk hb
theorem below_new (w:World)(o:Obj):Below w.heap.size w (w.alloc o):=(Below.refl _ _).alloc (Nat.le_refl _) o
theorem nil_row (w:World)(base:Nat):w.ownsRow base 5 1 (.slice none 0 0) ([]:List UInt8).length (bc []):=World.ownsRow_nil _ _ _ _
theorem jbody_num (kind lane id num:Nat)(pass:Bool)(ea:Option Addr)(en ec:Nat)(w:World)(hk:kind=2\/kind=5\/kind=6)(x:Nat)(hx:x=if kind=2 then id else num):
    Calls prog 159 #[.agg #[.int .i64 kind,.int .i64 lane,.slice ea en ec,.int .i64 id,.bool pass,.int .i64 num]] w λe w'=>∃v',e=.returned v'/\Fresh w w' v' (be 8 x):=by
  have hc:Hid (∀o n,Calls prog 198 #[.slice none 0 0,.int .i64 ((n:Nat):Int)] (w.alloc o) λe w'=>∃v',e=.returned v'/\App (w.heap.size+1) (w.alloc o) w' (.slice none 0 0) v' ([]++be 8 n)):=λo n=>app64' n (.slice none 0 0) [] (w.heap.size+1) (w.alloc o) (nil_row _ _) (by simp) (by decide)
  rcases hk with rfl|rfl|rfl
  · obtain rfl:x=id:=by simpa using hx
    clear hx
    go_enter func159,ntmps159
    go_wp2_with (go_at_call 198;go_fit (hc.out _ x);rintro e w1 ⟨v1,rfl,h1⟩)
    go_ret
    exact⟨v1,rfl,Fresh.of h1⟩
  all_goals
    obtain rfl:x=num:=by simpa using hx
    clear hx
    go_enter func159,ntmps159
    go_wp2_with (go_at_call 198;go_fit (hc.out _ x);rintro e w1 ⟨v1,rfl,h1⟩)
    go_ret
    exact⟨v1,rfl,Fresh.of h1⟩
theorem jbody_bare (kind lane id num:Nat)(pass:Bool)(ea:Option Addr)(en ec:Nat)(w:World)(hk:kind=3\/kind=7):
    Calls prog 159 #[.agg #[.int .i64 kind,.int .i64 lane,.slice ea en ec,.int .i64 id,.bool pass,.int .i64 num]] w λe w'=>∃v',e=.returned v'/\Fresh w w' v' []:=by
  rcases hk with rfl|rfl
  all_goals
    go_enter func159,ntmps159
    go_wp2
    go_ret
    exact⟨_,rfl,Fresh.of (Apped.refl (nil_row _ _))⟩
theorem jbody_submit (lane id num:Nat)(pass:Bool)(es:List Ed)(b off cap:Nat)(w:World)(hlane:lane<256)(hsm:Small es)(hlt:b<w.heap.size)(h0:∀i (h:i<es.length),w.cell? ⟨b,off+i*3,none⟩=some (.string es[i].1))(h1:∀i (h:i<es.length),w.cell? ⟨b,off+i*3+1,none⟩=some (.string es[i].2.1))(h2:∀i (h:i<es.length),w.cell? ⟨b,off+i*3+2,none⟩=some (.string es[i].2.2))(body:List UInt8)(hbody:body=subB lane es es.length++be 8 id):
    Calls prog 159 #[.agg #[.int .i64 1,.int .i64 lane,.slice (some ⟨b,off,none⟩) es.length cap,.int .i64 id,.bool pass,.int .i64 num]] w λe w'=>∃v',e=.returned v'/\Fresh w w' v' body:=by
  have hm:(lane:Int)%256=lane:=by omega
  have hc:Hid (∀o,Calls prog 160 #[.slice none 0 0,.int .u8 (lane:Int)] (w.alloc o) λe w'=>∃v',e=.returned v'/\App (w.heap.size+1) (w.alloc o) w' (.slice none 0 0) v' ([]++be 1 lane)):=λo=>app8' lane hlane (.slice none 0 0) [] (w.heap.size+1) (w.alloc o) (nil_row _ _) (by simp) (by decide)
  have hel:=edsB_len hsm es.length
  have hsub:Hid (([]++be 1 lane++edsB es es.length)++be 8 id=body):=by
    show _=_
    rw[hbody,subB,edsB];simp[List.append_assoc]
  have nb:Hid ((Value.slice none 0 0).ownBlock≠some b):=by show _≠_;simp[Value.ownBlock]
  have nw:Hid ((Value.slice none 0 0).ownBlock≠some w.heap.size):=by show _≠_;simp[Value.ownBlock]
  have L1:([]++be 1 lane:List UInt8).length=1:=by simp[be_len]
  have L2:([]++be 1 lane++edsB es es.length:List UInt8).length<1099511627776:=by rw[List.length_append,L1];omega
  clear hbody hlane
  go_enter func159,ntmps159
  go_wp2_with (first
    |(go_at_call 160;go_fit (hc.out _);rintro e w1 ⟨v1,rfl,k1⟩;have K1:Hid _:=k1;have c2:w1.cell? ⟨w.heap.size,2,none⟩=some (.slice (some ⟨b,off,none⟩) es.length cap):=Apped.keeps k1 (by simp) nw.out;have c3:w1.cell? ⟨w.heap.size,3,none⟩=some (.int .i64 id):=Apped.keeps k1 (by simp) nw.out;have n1:Hid (v1.ownBlock≠some w.heap.size):=Apped.apart k1 (by simp) nw.out)
    |fail)
  have hA1:=K1.out
  have hE:=appEdits es hsm b off cap v1 ([]++be 1 lane) (w.heap.size+1) w1 (Apped.row hA1) (Nat.le_trans (by simp) (Apped.grown hA1).size) (by omega)
    (λi hi=>Apped.keeps hA1 (jcell_after (below_new _ _) (h0 i hi)) nb.out) (λi hi=>Apped.keeps hA1 (jcell_after (below_new _ _) (h1 i hi)) nb.out) (λi hi=>Apped.keeps hA1 (jcell_after (below_new _ _) (h2 i hi)) nb.out) (by rw[L1];decide)
  refine hE.mono ?_
  rintro e w2 ⟨v2,rfl,k2⟩
  have d3:w2.cell? ⟨w.heap.size,3,none⟩=some (.int .i64 id):=Apped.keeps k2 c3 n1.out
  have hI:=app64' id v2 ([]++be 1 lane++edsB es es.length) (w.heap.size+1) w2 (Apped.row k2) (Nat.le_trans (by simp) (Nat.le_trans (Apped.grown hA1).size (Apped.grown k2).size)) L2
  have K2:Hid (App (w.heap.size+1) _ w2 _ v2 _):=Apped.trans hA1 k2
  clear hE k2 hA1 K1 c2 c3
  go_wp2_with (go_at_call 198;go_fit hI;rintro e w3 ⟨v3,rfl,k3⟩)
  go_ret
  refine⟨v3,rfl,?_⟩
  have:=Fresh.of (Apped.trans K2.out k3)
  rwa [hsub.out] at this
theorem recB_len {k:Nat}{body:List UInt8}:(be 1 k++be 4 body.length++body).length=5+body.length:=by
  rw[List.length_append,List.length_append,be_len,be_len]
theorem info_ed:(prog.info? 49).map (λi=>(i.zero,i.size,i.bytes))=some (some (.agg #[.string ⟨#[]⟩,.string ⟨#[]⟩,.string ⟨#[]⟩]),3,48):=by kernel_rfl
theorem Half.grown {w w':World}{g n k cb:Nat}{es:List Ed}(h:Half w g n k es)(hg:w.grownBy w' (some cb))(hne:g≠cb):Half w' g n k es:=by
  have hb:=hg.block g h.1 (λe=>hne (by simpa using e))
  refine⟨Nat.lt_of_lt_of_le h.1 hg.size,λj hj=>⟨?_,?_⟩,λi hi hk=>?_⟩
  · obtain⟨v,hv⟩:=(h.2.1 j hj).1
    exact⟨v,(World.cell?_of_block (w:=w) hb).trans hv⟩
  · rw[<-(h.2.1 j hj).2];simp[World.frozen?,hb]
  · obtain⟨h0,h1,h2⟩:=h.2.2 i hi hk
    exact⟨(World.cell?_of_block (w:=w) hb).trans h0,(World.cell?_of_block (w:=w) hb).trans h1,(World.cell?_of_block (w:=w) hb).trans h2⟩
theorem grown_new {w wr:World}{row:Option Nat}(h:w.grownBy wr row){b:Nat}(hb:w.heap.size<=b)(o:Nat)(u:Value):w.grownBy (wr.setCell ⟨b,o,none⟩ u) row:=
  ⟨h.os,h.tape,h.output,by simpa[World.setCell] using h.size,λk hk hne=>by
    rw[(grown_set wr b o u).block k (Nat.lt_of_lt_of_le hk h.size) (λe=>by cases e;omega),h.block k hk hne]⟩
theorem Cur.other {w:World}{cb:Nat}{v:Value}{sh:Bool}(h:Cur w cb v sh){b:Nat}(hb:b≠cb)(o:Nat)(u:Value):Cur (w.setCell ⟨b,o,none⟩ u) cb v sh:=
  ((grown_set w b o u).block cb (Array.getElem?_eq_some_iff.1 h).1 (λe=>hb (by simpa using e.symm))).trans h
theorem BV.other {w:World}{v:Value}{R:List UInt8}(h:BV w v R){b:Nat}(hb:v.ownBlock≠some b)(o:Nat)(u:Value):BV (w.setCell ⟨b,o,none⟩ u) v R:=by
  rcases h with h|⟨g,off,cap,rfl,h2,h3,h4,h5⟩
  · exact .inl h
  · exact .inr ⟨g,off,cap,rfl,h2,h3,by simpa[World.setCell] using h4,λi hi=>(grown_set w b o u).cell (h5 i hi) (λe=>hb e)⟩
theorem BV.grown {w w':World}{v:Value}{R:List UInt8}(h:BV w v R)(hg:w.grownBy w' none):BV w' v R:=h.later ⟨hg.os,hg.tape,hg.output,hg.size,λk hk=>hg.block k hk (by simp)⟩
theorem Cur.grown {w w':World}{cb:Nat}{v:Value}{sh:Bool}(h:Cur w cb v sh)(hg:w.grownBy w' none):Cur w' cb v sh:=(hg.block cb (Array.getElem?_eq_some_iff.1 h).1 (by simp)).trans h
theorem edits_read (cb:Nat)(v:Value)(sh:Bool)(es:List Ed)(rest R:List UInt8)(w:World)(hC:Cur w cb v sh)(hV:BV w v R)(hR:R=edsB es es.length++rest)(hsm:Small es):
    Calls prog 202 #[.pointer (some ⟨cb,0,none⟩)] w λe w'=>(∃g,e=.returned (.slice (some ⟨g,0,none⟩) es.length es.length)/\w.heap.size<=g/\Half w' g es.length es.length es)/\(∃v',Cur w' cb v' sh/\BV w' v' rest/\v'.ownBlock=v.ownBlock)/\w.grownBy w' (some cb):=by
  obtain⟨i0,hi,hz0,hz1,hz2⟩:=info_parts info_ed
  have hl4:=hsm.1
  have hN:=num8 cb v sh R w hC hV
  have hR1:R=[UInt8.ofNat es.length]++(es.flatMap edB++rest):=by
    rw[hR,edsB,List.take_length,List.append_assoc];simp[be,Nat.mod_eq_of_lt (show es.length<256 by omega)]
  have hlen:1<=R.length:=by rw[hR1];simp
  have hval:val (R.take 1)=es.length:=by
    rw[hR1];simp[val];omega
  have hdrop:R.drop 1=es.flatMap edB++rest:=by rw[hR1];rfl
  have q2:i0.bytes*es.length<=281474976710656:=by rw[hz2];omega
  have q3:es.length<=maxLen:=by unfold maxLen;omega
  have hcl:cb<w.heap.size:=(Array.getElem?_eq_some_iff.1 hC).1
  have hvb:Hid (∀b,w.heap.size<=b->v.ownBlock≠some b):=λb hb=>by
    rcases hV with ⟨_,rfl⟩|⟨g,off,cap,rfl,_,_,hg,_⟩
    · simp[Value.ownBlock]
    · intro e
      have:g=b:=by simpa[Value.ownBlock] using e
      omega
  clear hC hV hR1 hR
  go_enter func202,ntmps202
  go_wp2_with fail
  refine hN.mono ?_
  rintro e w1 ⟨x,rfl,hk,hg⟩
  rcases hk with ⟨_,hx,v',hC',hV',ho'⟩|⟨h,_⟩
  · rw[hval] at hx
    subst hx
    rw[hdrop] at hV'
    have HC':Hid (Cur w1 cb v' sh):=hC'
    have HV':Hid (BV w1 v' (es.flatMap edB++rest)):=hV'
    have HG:Hid (w.grownBy w1 (some cb)):=hg
    have hs1:=hg.size
    clear hC' hV' hg hN
    go_wp2_with (at_make;refine wpList_make_full _ rfl _ _ _ rfl w1.heap.size _ i0 _ 3 underlying27 hi hz0 hz1 _ _ _ _ es.length rfl rfl (by omega) (by omega) q2 q3 (Nat.le_refl _) ?_;intro w2 hrow2 hg2)
    have H2:Half w2 w1.heap.size es.length 0 es:=Half.made hrow2
    have hS:Hid (∃v2,Cur w2 cb v2 sh/\BV w2 v2 ((es.drop 0).flatMap edB++rest)/\v2.ownBlock=v.ownBlock):=⟨v',HC'.out.grown hg2,HV'.out.grown hg2,ho'⟩
    have hG2:Hid (w.grownBy w2 (some cb)):=HG.out.trans ⟨hg2.os,hg2.tape,hg2.output,hg2.size,λk hk _=>hg2.block k hk (by simp)⟩
    have hne:w1.heap.size≠cb:=by omega
    clear HC' HV' HG hrow2 hg2 ho' q2 q3
    generalize w1.heap.size=g at H2 hne hs1
    go_loopw [4,10] (λ_ iv wr=>∃k:Nat,k<=es.length/\iv=.int .i64 k/\Hid (Half wr g es.length k es)/\Hid (∃v2,Cur wr cb v2 sh/\BV wr v2 ((es.drop k).flatMap edB++rest)/\v2.ownBlock=v.ownBlock)/\Hid (w.grownBy wr (some cb))) (λ_ i _=>es.length-(intOf i).toNat)
    case atStart=>exact⟨0,Nat.zero_le _,rfl,H2,hS,hG2⟩
    case round=>
      obtain⟨k,hk,rfl,hH,hS',hG⟩:=hrel
      clear hS hG2 H2
      by_cases hlk:k<es.length
      · obtain⟨v2,hC2,hV2,hO2⟩:=hS'.out
        have hd:(es.drop k).flatMap edB++rest=txt es[k].1++(txt es[k].2.1++(txt es[k].2.2++((es.drop (k+1)).flatMap edB++rest))):=by
          rw[List.drop_eq_getElem_cons hlk,List.flatMap_cons,edB];simp[List.append_assoc]
        obtain⟨y0,y1,y2⟩:=hsm.2 _ (List.getElem_mem hlk)
        have hset:Hid (∀w',Half w' g es.length k es->Half (((w'.setCell ⟨g,k*3,none⟩ (.string es[k].1)).setCell ⟨g,k*3+1,none⟩ (.string es[k].2.1)).setCell ⟨g,k*3+2,none⟩ (.string es[k].2.2)) g es.length (k+1) es):=λw' h=>h.set hlk rfl
        rw[hd] at hV2
        clear hd hS'
        generalize hT:(es.drop (k+1)).flatMap edB++rest=T at hV2
        have HT:Hid ((es.drop (k+1)).flatMap edB++rest=T):=hT
        clear hT
        generalize es[k].1=p at hV2 y0 hset
        generalize es[k].2.1=o at hV2 y1 hset
        generalize es[k].2.2=n at hV2 y2 hset
        have hT1:=text_read cb v2 sh p _ _ wr hC2 hV2 rfl (by omega)
        have O2:Hid (v2.ownBlock=v.ownBlock):=hO2
        clear hC2 hV2 hO2
        go_wp2_with fail
        refine hT1.mono ?_
        rintro e w3 ⟨rfl,⟨v3,hC3,hV3,hO3⟩,hg3⟩
        have hT2:=text_read cb v3 sh o _ _ w3 hC3 hV3 rfl (by omega)
        have O3:Hid (v3.ownBlock=v.ownBlock):=hO3.trans O2.out
        have H3:Hid (Half w3 g es.length k es):=hH.out.grown hg3 hne
        have G3:Hid (w.grownBy w3 (some cb)):=hG.out.trans hg3
        clear hC3 hV3 hO3 hT1 hg3 O2 hH hG
        go_wp2_with fail
        refine hT2.mono ?_
        rintro e w4 ⟨rfl,⟨v4,hC4,hV4,hO4⟩,hg4⟩
        have hT3:=text_read cb v4 sh n _ _ w4 hC4 hV4 rfl (by omega)
        have O4:Hid (v4.ownBlock=v.ownBlock):=hO4.trans O3.out
        have H4:Hid (Half w4 g es.length k es):=H3.out.grown hg4 hne
        have G4:Hid (w.grownBy w4 (some cb)):=G3.out.trans hg4
        clear hC4 hV4 hO4 hT2 hg4 O3 H3 G3
        go_wp2_with fail
        refine hT3.mono ?_
        rintro e w5 ⟨rfl,⟨v5,hC5,hV5,hO5⟩,hg5⟩
        have O5:Hid (v5.ownBlock=v.ownBlock):=hO5.trans O4.out
        have H5:Hid (Half w5 g es.length k es):=H4.out.grown hg5 hne
        have G5:Hid (w.grownBy w5 (some cb)):=G4.out.trans hg5
        have C5:Hid (Cur w5 cb v5 sh):=hC5
        have V5:Hid (BV w5 v5 T):=hV5
        have z0:=(H5.out.2.1 (k*3) (by omega)).2
        have z1:=(H5.out.2.1 (k*3+1) (by omega)).2
        have z2:=(H5.out.2.1 (k*3+2) (by omega)).2
        obtain⟨u0,x0⟩:=(H5.out.2.1 (k*3) (by omega)).1
        obtain⟨u1,x1⟩:=(H5.out.2.1 (k*3+1) (by omega)).1
        obtain⟨u2,x2⟩:=(H5.out.2.1 (k*3+2) (by omega)).1
        clear hC5 hV5 hO5 hT3 hg5 O4 H4 G4
        have hgw:w.heap.size<=g:=hs1
        have nv:Hid (v5.ownBlock≠some g):=by
          show v5.ownBlock≠some g
          rw[O5.out];exact hvb.out g hgw
        go_wp2_with fail
        have HN:=hset.out _ H5.out
        refine⟨⟨k+1,hlk,by go_num,HN,⟨v5,((C5.out.other hne _ _).other hne _ _).other hne _ _,?_,O5.out⟩,grown_new (grown_new (grown_new G5.out hgw _ _) hgw _ _) hgw _ _⟩,by simp[intOf];omega⟩
        rw[HT.out]
        exact((V5.out.other nv.out _ _).other nv.out _ _).other nv.out _ _
      · obtain rfl:k=es.length:=by omega
        go_wp2_with fail
        go_ret
        obtain⟨v2,hC2,hV2,hO2⟩:=hS'.out
        rw[List.drop_length] at hV2
        exact⟨⟨g,rfl,hs1,hH.out⟩,⟨v2,hC2,by simpa using hV2,hO2⟩,hG.out⟩
  · omega
def Bx (w:World)(b:Nat)(t:TypeId)(cs:Array Value):Prop:=w.heap[b]? =some (.cells cs t (0,0))
theorem Bx.cell {w:World}{b:Nat}{t:TypeId}{cs:Array Value}(h:Bx w b t cs){i:Nat}{v:Value}(hv:cs[i]? =some v):w.cell? ⟨b,i,none⟩=some v:=by
  unfold Bx at h;simp[World.cell?,h,hv]
theorem Bx.c {w:World}{b:Nat}{t:TypeId}{cs:Array Value}(h:Bx w b t cs)(i:Nat)(v:Value)(hv:cs[i]?=some v:=by rfl):w.cell? ⟨b,i,none⟩=some v:=h.cell hv
theorem Bx.fr {w:World}{b:Nat}{t:TypeId}{cs:Array Value}(h:Bx w b t cs)(i:Nat):w.frozen? ⟨b,i,none⟩=false:=by
  unfold Bx at h;simp[World.frozen?,h]
theorem Bx.new (w:World)(cs:Array Value)(t:TypeId):Bx (w.alloc (.cells cs t)) w.heap.size t cs:=by
  show (w.heap.push _)[w.heap.size]? =_
  simp
theorem Bx.lt {w:World}{b:Nat}{t:TypeId}{cs:Array Value}(h:Bx w b t cs):b<w.heap.size:=(Array.getElem?_eq_some_iff.1 h).1
theorem Bx.grown {w w':World}{b:Nat}{t:TypeId}{cs:Array Value}{row:Option Nat}(h:Bx w b t cs)(hg:w.grownBy w' row)(hne:some b≠row):Bx w' b t cs:=(hg.block b h.lt hne).trans h
theorem Bx.mk {w:World}{b:Nat}{t:TypeId}{cs:Array Value}(h:Bx w b t cs)(o:Obj):Bx (w.alloc o) b t cs:=h.grown (World.grownBy_alloc w o none) (by simp)
theorem Bx.set {w:World}{b:Nat}{t:TypeId}{cs:Array Value}(h:Bx w b t cs)(i:Nat)(u:Value):Bx (w.setCell ⟨b,i,none⟩ u) b t (cs.setIfInBounds i u):=by
  unfold Bx at h ⊢
  simp[World.setCell,Array.getElem?_modify,h]
theorem Bx.other {w:World}{b c:Nat}{t:TypeId}{cs:Array Value}(h:Bx w b t cs)(hne:c≠b)(i:Nat)(u:Value):Bx (w.setCell ⟨c,i,none⟩ u) b t cs:=h.grown (grown_set w c i u) (λe=>hne (by simpa using e.symm))
theorem Bx.set6 {w:World}{b:Nat}{t:TypeId}{a0 a1 a2 a3 a4 a5:Value}(h:Bx w b t #[a0,a1,a2,a3,a4,a5])(x0 x1 x2 x3 x4 x5:Value):Bx ((((((w.setCell ⟨b,0,none⟩ x0).setCell ⟨b,1,none⟩ x1).setCell ⟨b,2,none⟩ x2).setCell ⟨b,3,none⟩ x3).setCell ⟨b,4,none⟩ x4).setCell ⟨b,5,none⟩ x5) b t #[x0,x1,x2,x3,x4,x5]:=by
  have h0:=h.set 0 x0
  have h1:=h0.set 1 x1
  have h2:=h1.set 2 x2
  have h3:=h2.set 3 x3
  have h4:=h3.set 4 x4
  have h5:=h4.set 5 x5
  simp only[List.setIfInBounds_toArray,List.set_cons_zero,List.set_cons_succ] at h5
  exact h5
theorem below_at_new {w W w1:World}{b:Nat}(h:Below w.heap.size w W)(hg:W.grownBy w1 (some b))(hb:w.heap.size<=b):Below w.heap.size w w1:=
  h.trans ⟨hg.os,hg.tape,hg.output,hg.size,λk hk=>hg.block k (Nat.lt_of_lt_of_le hk h.size) (λe=>by
    have:k=b:=by simpa using e
    omega)⟩
theorem below_set {B:Nat}{w wr:World}(h:Below B w wr){b:Nat}(hb:B<=b)(o:Nat)(u:Value):Below B w (wr.setCell ⟨b,o,none⟩ u):=h.setCell hb u
def zeroR:Array Value:=#[.int .i64 0,.int .i64 0,.slice none 0 0,.int .i64 0,.bool false,.int .i64 0]
theorem back_bare (kind:Nat)(v:Value)(w:World)(hk:kind=3\/kind=7)(hv:∃a n c,v=.slice a n c):
    Calls prog 166 #[.int .i64 kind,v] w λe w'=>e=.returned (.agg #[.int .i64 kind,.int .i64 0,.slice none 0 0,.int .i64 0,.bool false,.int .i64 0])/\Below w.heap.size w w':=by
  obtain⟨a,n,c,rfl⟩:=hv
  rcases hk with rfl|rfl
  all_goals
    go_enter func166,ntmps166
    go_wp2
    refine bodyPost_ret (by simp[results,results166,go_sem];rfl) rfl ⟨by rfl,?_⟩
    exact below_then (below_then (below_new _ _) (below_new _ _)) (below_new _ _)
def W3 (w:World)(kind:Nat)(v:Value):World:=((w.alloc (.cells zeroR 140)).alloc (.cells #[.int .i64 kind,.int .i64 0,.slice none 0 0,.int .i64 0,.bool false,.int .i64 0] 140)).alloc (.cells #[v,.bool false] 205)
theorem W3.below (w:World)(kind:Nat)(v:Value):Below w.heap.size w (W3 w kind v):=below_then (below_then (below_new _ _) (below_new _ _)) (below_new _ _)
theorem W3.b0 (w:World)(kind:Nat)(v:Value):Bx (W3 w kind v) w.heap.size 140 zeroR:=((Bx.new w _ _).mk _).mk _
theorem W3.b1 (w:World)(kind:Nat)(v:Value):Bx (W3 w kind v) (w.heap.size+1) 140 #[.int .i64 kind,.int .i64 0,.slice none 0 0,.int .i64 0,.bool false,.int .i64 0]:=by
  have:=(Bx.new (w.alloc (.cells zeroR 140)) #[.int .i64 kind,.int .i64 0,.slice none 0 0,.int .i64 0,.bool false,.int .i64 0] 140).mk (.cells #[v,.bool false] 205)
  simpa[W3] using this
theorem W3.cur (w:World)(kind:Nat)(v:Value):Cur (W3 w kind v) (w.heap.size+1+1) v false:=by
  have:=Bx.new ((w.alloc (.cells zeroR 140)).alloc (.cells #[.int .i64 kind,.int .i64 0,.slice none 0 0,.int .i64 0,.bool false,.int .i64 0] 140)) #[v,.bool false] 205
  simpa[W3,Cur,Bx] using this
theorem back_num (kind x:Nat)(v:Value)(w:World)(hk:kind=2\/kind=5\/kind=6)(hx:x<9223372036854775808)(hV:BV w v (be 8 x)):
    Calls prog 166 #[.int .i64 kind,v] w λe w'=>e=.returned (.agg #[.int .i64 kind,.int .i64 0,.slice none 0 0,.int .i64 (if kind=2 then x else 0),.bool false,.int .i64 (if kind=2 then 0 else x)])/\Below w.heap.size w w':=by
  obtain⟨a,n,c,rfl⟩:=hV.form
  have hl8:(be 8 x).take 8=be 8 x:=List.take_of_length_le (by rw[be_len];exact Nat.le_refl _)
  have hv8:val (be 8 x)=x:=by rw[val_be];exact Nat.mod_eq_of_lt (by omega)
  have hN:=num64 (w.heap.size+1+1) _ false _ _ (W3.cur w kind (.slice a n c)) (hV.later (W3.below w kind _)) (by rw[hl8,hv8];exact hx)
  rcases hk with rfl|rfl|rfl
  · go_enter func166,ntmps166
    go_wp2_with fail
    go_fit hN
    rintro e w1 ⟨y,rfl,hk,hg⟩
    obtain rfl:y=x:=by
      rcases hk with ⟨_,h,_⟩|⟨h,_⟩
      · rw[h,hl8,hv8]
      · rw[be_len] at h;omega
    have B1:=(W3.b1 w 2 (.slice a n c)).grown hg (by simp)
    have B0:=(W3.b0 w 2 (.slice a n c)).grown hg (by simp;omega)
    have HW:Hid (Below w.heap.size w w1):=below_at_new (W3.below w 2 (.slice a n c)) hg (by omega)
    have m0:=B1.cell (i:=0) rfl
    have m1:=B1.cell (i:=1) rfl
    have m2:=B1.cell (i:=2) rfl
    have m3:=B1.cell (i:=3) rfl
    have m4:=B1.cell (i:=4) rfl
    have m5:=B1.cell (i:=5) rfl
    have mf:=B1.fr 3
    have n0:=B0.cell (i:=0) rfl
    have n1:=B0.cell (i:=1) rfl
    have n2:=B0.cell (i:=2) rfl
    have n3:=B0.cell (i:=3) rfl
    have n4:=B0.cell (i:=4) rfl
    have n5:=B0.cell (i:=5) rfl
    have nf:=B0.fr
    have HB0:Hid (Bx w1 w.heap.size 140 zeroR):=B0
    clear hN hk hg B1 B0 hV hl8 hv8
    go_wp2
    have hz:=Bx.set6 (HB0.out.other (c:=w.heap.size+1) (by omega) 3 (.int .i64 y)) (.int .i64 2) (.int .i64 0) (.slice none 0 0) (.int .i64 y) (.bool false) (.int .i64 0)
    have z0:=hz.cell (i:=0) rfl
    have z1:=hz.cell (i:=1) rfl
    have z2:=hz.cell (i:=2) rfl
    have z3:=hz.cell (i:=3) rfl
    have z4:=hz.cell (i:=4) rfl
    have z5:=hz.cell (i:=5) rfl
    refine bodyPost_ret (by simp[results,results166,go_sem,z0,z1,z2,z3,z4,z5]) rfl ⟨rfl,?_⟩
    have h0:=Nat.le_refl w.heap.size
    exact below_set (below_set (below_set (below_set (below_set (below_set (below_set HW.out (Nat.le_succ _) _ _) h0 _ _) h0 _ _) h0 _ _) h0 _ _) h0 _ _) h0 _ _
  · go_enter func166,ntmps166
    go_wp2_with fail
    go_fit hN
    rintro e w1 ⟨y,rfl,hk,hg⟩
    obtain rfl:y=x:=by
      rcases hk with ⟨_,h,_⟩|⟨h,_⟩
      · rw[h,hl8,hv8]
      · rw[be_len] at h;omega
    have B1:=(W3.b1 w 5 (.slice a n c)).grown hg (by simp)
    have B0:=(W3.b0 w 5 (.slice a n c)).grown hg (by simp;omega)
    have HW:Hid (Below w.heap.size w w1):=below_at_new (W3.below w 5 (.slice a n c)) hg (by omega)
    have m0:=B1.cell (i:=0) rfl
    have m1:=B1.cell (i:=1) rfl
    have m2:=B1.cell (i:=2) rfl
    have m3:=B1.cell (i:=3) rfl
    have m4:=B1.cell (i:=4) rfl
    have m5:=B1.cell (i:=5) rfl
    have mf:=B1.fr 5
    have n0:=B0.cell (i:=0) rfl
    have n1:=B0.cell (i:=1) rfl
    have n2:=B0.cell (i:=2) rfl
    have n3:=B0.cell (i:=3) rfl
    have n4:=B0.cell (i:=4) rfl
    have n5:=B0.cell (i:=5) rfl
    have nf:=B0.fr
    have HB0:Hid (Bx w1 w.heap.size 140 zeroR):=B0
    clear hN hk hg B1 B0 hV hl8 hv8
    go_wp2
    have hz:=Bx.set6 (HB0.out.other (c:=w.heap.size+1) (by omega) 5 (.int .i64 y)) (.int .i64 5) (.int .i64 0) (.slice none 0 0) (.int .i64 0) (.bool false) (.int .i64 y)
    have z0:=hz.cell (i:=0) rfl
    have z1:=hz.cell (i:=1) rfl
    have z2:=hz.cell (i:=2) rfl
    have z3:=hz.cell (i:=3) rfl
    have z4:=hz.cell (i:=4) rfl
    have z5:=hz.cell (i:=5) rfl
    refine bodyPost_ret (by simp[results,results166,go_sem,z0,z1,z2,z3,z4,z5]) rfl ⟨rfl,?_⟩
    have h0:=Nat.le_refl w.heap.size
    exact below_set (below_set (below_set (below_set (below_set (below_set (below_set HW.out (Nat.le_succ _) _ _) h0 _ _) h0 _ _) h0 _ _) h0 _ _) h0 _ _) h0 _ _
  · go_enter func166,ntmps166
    go_wp2_with fail
    go_fit hN
    rintro e w1 ⟨y,rfl,hk,hg⟩
    obtain rfl:y=x:=by
      rcases hk with ⟨_,h,_⟩|⟨h,_⟩
      · rw[h,hl8,hv8]
      · rw[be_len] at h;omega
    have B1:=(W3.b1 w 6 (.slice a n c)).grown hg (by simp)
    have B0:=(W3.b0 w 6 (.slice a n c)).grown hg (by simp;omega)
    have HW:Hid (Below w.heap.size w w1):=below_at_new (W3.below w 6 (.slice a n c)) hg (by omega)
    have m0:=B1.cell (i:=0) rfl
    have m1:=B1.cell (i:=1) rfl
    have m2:=B1.cell (i:=2) rfl
    have m3:=B1.cell (i:=3) rfl
    have m4:=B1.cell (i:=4) rfl
    have m5:=B1.cell (i:=5) rfl
    have mf:=B1.fr 5
    have n0:=B0.cell (i:=0) rfl
    have n1:=B0.cell (i:=1) rfl
    have n2:=B0.cell (i:=2) rfl
    have n3:=B0.cell (i:=3) rfl
    have n4:=B0.cell (i:=4) rfl
    have n5:=B0.cell (i:=5) rfl
    have nf:=B0.fr
    have HB0:Hid (Bx w1 w.heap.size 140 zeroR):=B0
    clear hN hk hg B1 B0 hV hl8 hv8
    go_wp2
    have hz:=Bx.set6 (HB0.out.other (c:=w.heap.size+1) (by omega) 5 (.int .i64 y)) (.int .i64 6) (.int .i64 0) (.slice none 0 0) (.int .i64 0) (.bool false) (.int .i64 y)
    have z0:=hz.cell (i:=0) rfl
    have z1:=hz.cell (i:=1) rfl
    have z2:=hz.cell (i:=2) rfl
    have z3:=hz.cell (i:=3) rfl
    have z4:=hz.cell (i:=4) rfl
    have z5:=hz.cell (i:=5) rfl
    refine bodyPost_ret (by simp[results,results166,go_sem,z0,z1,z2,z3,z4,z5]) rfl ⟨rfl,?_⟩
    have h0:=Nat.le_refl w.heap.size
    exact below_set (below_set (below_set (below_set (below_set (below_set (below_set HW.out (Nat.le_succ _) _ _) h0 _ _) h0 _ _) h0 _ _) h0 _ _) h0 _ _) h0 _ _
end Go.Proofs.YtgamgomepdfgdaaGreat
