import Derived.OwnWalk
import Derived.Test.YtgamgomepdfgdaaGreatFM03
import Derived.Test.YtgamgomepdfgdaaGreatFM05
set_option maxRecDepth 100000
set_option maxHeartbeats 8000000
namespace Go.Proofs.YtgamgomepdfgdaaGreat
open Go.RowKit Go.Proofs.Tryz
def edsB (es:List Ed)(k:Nat):List UInt8:=be 1 es.length++(es.take k).flatMap edB
theorem edsB_succ {es:List Ed}{k:Nat}(hk:k<es.length):edsB es (k+1)=edsB es k++txt es[k].1++txt es[k].2.1++txt es[k].2.2:=by
  rw[edsB,edsB,List.take_succ_eq_append_getElem hk,List.flatMap_append]
  simp[edB,List.append_assoc]
theorem edsB_len {es:List Ed}(h:Small es)(k:Nat):(edsB es k).length<=109:=by
  have h1:=flat_small (es.take k) λx hx=>h.2 x (List.mem_of_mem_take hx)
  have h2:=h.1
  rw[List.length_take] at h1
  rw[edsB,List.length_append,be_len]
  omega
theorem Apped.alloc {base:Nat}{w wr:World}{v v':Value}{n:Nat}{xs:List Value}(h:Apped base w wr v v' n xs)(o:Obj):Apped base w (wr.alloc o) v v' n xs:=by
  have ha:=World.grownBy_alloc wr o none
  exact⟨h.row.alloc o,⟨ha.os.trans h.grown.os,ha.tape.trans h.grown.tape,ha.output.trans h.grown.output,Nat.le_trans h.grown.size ha.size,λk hk hne=>(ha.block k (Nat.lt_of_lt_of_le hk h.grown.size) (by simp)).trans (h.grown.block k hk hne)⟩,h.block⟩
theorem row_ne {w:World}{base:Nat}{e:TypeId}{size n:Nat}{v:Value}{xs:List Value}(h:w.ownsRow base e size v n xs){b:Nat}(hb:b<base\/w.heap.size<=b):v.ownBlock≠some b:=λe=>by
  have:=h.lt b e
  omega
def TextTo (base:Nat)(p:ByteArray)(X Y:List UInt8):Prop:=∀(v:Value) (w:World),w.ownsRow base 5 1 v X.length (bc X)->base<=w.heap.size->
  Calls prog 237 #[v,.string p] w λe w'=>∃v',e=.returned v'/\App base w w' v v' Y
theorem textTo {base:Nat}{p:ByteArray}{X Y:List UInt8}(h:Y=X++txt p)(hp:p.size<256)(hX:X.length<1099511627000):TextTo base p X Y:=λv w hr hb=>by
  subst h;exact appText p hp v X base w hr hb hX
theorem appEdits (es:List Ed)(hsm:Small es)(b off cap:Nat)(v:Value)(l:List UInt8)(base:Nat)(w:World)(h:w.ownsRow base 5 1 v l.length (bc l))(hbase:base<=w.heap.size)(hlt:b<base)(h0:∀i (h:i<es.length),w.cell? ⟨b,off+i*3,none⟩=some (.string es[i].1))(h1:∀i (h:i<es.length),w.cell? ⟨b,off+i*3+1,none⟩=some (.string es[i].2.1))(h2:∀i (h:i<es.length),w.cell? ⟨b,off+i*3+2,none⟩=some (.string es[i].2.2))(hlen:l.length<1099511000000):
    Calls prog 197 #[v,.slice (some ⟨b,off,none⟩) es.length cap] w λe w'=>∃v',e=.returned v'/\App base w w' v v' (l++edsB es es.length):=by
  have hl4:=hsm.1
  have hc:=app8' es.length (by omega) v l base w h hbase (by omega)
  have hm:(es.length:Int)%256=es.length:=by omega
  have hvb:v.ownBlock≠some b:=row_ne h (.inl hlt)
  clear h
  go_enter func197,ntmps197
  go_wp2_with (go_at_call 160;go_fit hc;rintro e w1 ⟨v1,rfl,hA⟩)
  have HA:Hid (App base w w1 v v1 (l++edsB es 0)):=by
    show App base w w1 v v1 (l++edsB es 0)
    rw[edsB];simpa using hA
  clear hA hc
  go_loopw [0,6,14] (λbv _ iv wr=>∃k:Nat,k<=es.length/\iv=.int .i64 k/\Hid (App base w wr v bv (l++edsB es k))) (λ_ _ i _=>es.length-(intOf i).toNat)
  case atStart=>exact⟨0,Nat.zero_le _,rfl,HA⟩
  case round=>
    obtain⟨k,hk,rfl,hA⟩:=hrel
    clear HA
    by_cases hlk:k<es.length
    · have hwr:=Nat.le_trans hbase (Apped.grown hA.out).size
      have g0:=Apped.keeps hA.out (h0 k hlk) hvb
      have g1:=Apped.keeps hA.out (h1 k hlk) hvb
      have g2:=Apped.keeps hA.out (h2 k hlk) hvb
      obtain⟨y0,y1,y2⟩:=hsm.2 _ (List.getElem_mem hlk)
      have hel:=edsB_len hsm k
      have hsc:=edsB_succ hlk
      generalize hNe:edsB es (k+1)=N at hsc
      have HN:Hid (edsB es (k+1)=N):=hNe
      clear hNe h0 h1 h2
      generalize edsB es k=M at hA hel hsc
      generalize es[k].1=p at g0 y0 hsc
      generalize es[k].2.1=o at g1 y1 hsc
      generalize es[k].2.2=n at g2 y2 hsc
      obtain⟨X0,hX0⟩:∃X,X=l++M:=⟨_,rfl⟩
      obtain⟨X1,hX1⟩:∃X,X=X0++txt p:=⟨_,rfl⟩
      obtain⟨X2,hX2⟩:∃X,X=X1++txt o:=⟨_,rfl⟩
      have hX3:l++N=X2++txt n:=by rw[hX2,hX1,hX0,hsc];simp[List.append_assoc]
      have L0:X0.length=l.length+M.length:=by rw[hX0,List.length_append]
      have L1:X1.length=X0.length+(p.size+1):=by rw[hX1,List.length_append,txt_len]
      have L2:X2.length=X1.length+(o.size+1):=by rw[hX2,List.length_append,txt_len]
      have T1:Hid (TextTo base p X0 X1):=textTo hX1 (by omega) (by omega)
      have T2:Hid (TextTo base o X1 X2):=textTo hX2 (by omega) (by omega)
      have T3:Hid (TextTo base n X2 (l++N)):=textTo hX3 (by omega) (by omega)
      rw[<-hX0] at hA
      have R0:Hid (∀ob,(wr.alloc ob).ownsRow base 5 1 u0 X0.length (bc X0)):=λob=>World.ownsRow.alloc (Apped.row hA.out) ob
      have N0:Hid (u0.ownBlock≠some wr.heap.size):=row_ne (Apped.row hA.out) (.inr (Nat.le_refl _))
      have B0:Hid (∀ob,base<=(wr.alloc ob).heap.size/\wr.heap.size<(wr.alloc ob).heap.size):=λob=>by
        show base<=_/\wr.heap.size<_
        simp;omega
      have A0:Hid (∀ob,App base w (wr.alloc ob) v u0 X0):=λob=>Apped.alloc hA.out ob
      clear hA hX0 hX1 hX2 hX3 hsc L0 L1 L2 hel
      go_wp2_with (first
        |(go_at_call 237;go_fit (T1.out u0 (wr.alloc _) (R0.out _) (B0.out _).1);rintro e w3 ⟨v3,rfl,h3⟩;have c1:w3.cell? ⟨wr.heap.size,1,none⟩=some (.string o):=Apped.keeps h3 (by simp) N0.out;have c2:w3.cell? ⟨wr.heap.size,2,none⟩=some (.string n):=Apped.keeps h3 (by simp) N0.out;have N3:Hid (v3.ownBlock≠some wr.heap.size):=Apped.apart h3 (B0.out _).2 N0.out;have A3:Hid (App base w w3 v v3 X1):=Apped.trans (A0.out _) h3;clear h3)
        |(go_at_call 237;go_fit (T2.out v3 w3 (Apped.row A3.out) (Nat.le_trans hbase (Apped.grown A3.out).size));rintro e w4 ⟨v4,rfl,h4⟩;have d2:w4.cell? ⟨wr.heap.size,2,none⟩=some (.string n):=Apped.keeps h4 c2 N3.out;have A4:Hid (App base w w4 v v4 X2):=Apped.trans A3.out h4;clear h4)
        |(go_at_call 237;go_fit (T3.out v4 w4 (Apped.row A4.out) (Nat.le_trans hbase (Apped.grown A4.out).size));rintro e w5 ⟨v5,rfl,h5⟩;have A5:Hid (App base w w5 v v5 (l++N)):=Apped.trans A4.out h5;clear h5))
      exact⟨⟨k+1,hlk,by go_num,by rw[HN.out];exact A5⟩,by simp[intOf];omega⟩
    · obtain rfl:k=es.length:=by omega
      go_wp2
      go_ret
      exact⟨u0,rfl,hA.out⟩
def Fresh (w w':World)(v:Value)(l:List UInt8):Prop:=w'.ownsRow w.heap.size 5 1 v l.length (bc l)/\Below w.heap.size w w'
theorem row_low {w:World}{base base':Nat}{e:TypeId}{size:Nat}{v:Value}{n:Nat}{xs:List Value}(h:w.ownsRow base e size v n xs)(hb:base'<=base):w.ownsRow base' e size v n xs:=by
  refine⟨h.1,?_⟩
  rcases h.2 with h|⟨g,cap,cur,h1,h2,h3⟩
  · exact .inl h
  · exact .inr ⟨g,cap,cur,h1,Nat.le_trans hb h2,h3⟩
theorem Fresh.of {w w':World}{o:Obj}{v:Value}{l:List UInt8}(h:App (w.heap.size+1) (w.alloc o) w' (.slice none 0 0) v l):Fresh w w' v l:=by
  refine⟨row_low (Apped.row h) (Nat.le_succ _),?_⟩
  have hg:=Apped.grown h
  have hb:Below (w.alloc o).heap.size (w.alloc o) w':=⟨hg.os,hg.tape,hg.output,hg.size,λk hk=>hg.block k hk (by simp[Value.ownBlock])⟩
  exact below_mk hb
theorem below_new (w:World)(o:Obj):Below w.heap.size w (w.alloc o):=(Below.refl _ _).alloc (Nat.le_refl _) o
theorem nil_row (w:World)(base:Nat):w.ownsRow base 5 1 (.slice none 0 0) ([]:List UInt8).length (bc []):=World.ownsRow_nil _ _ _ _
theorem jbody_num (kind lane id num:Nat)(pass:Bool)(ea:Option Addr)(en ec:Nat)(w:World)(hk:kind=2\/kind=5\/kind=6)(x:Nat)(hx:x=if kind=2 then id else num):
    Calls prog 159 #[.agg #[.int .i64 kind,.int .i64 lane,.slice ea en ec,.int .i64 id,.bool pass,.int .i64 num]] w λe w'=>∃v',e=.returned v'/\Fresh w w' v' (be 8 x):=by
  have hc:Hid (∀o n,Calls prog 198 #[.slice none 0 0,.int .i64 ((n:Nat):Int)] (w.alloc o) λe w'=>∃v',e=.returned v'/\App (w.heap.size+1) (w.alloc o) w' (.slice none 0 0) v' ([]++be 8 n)):=λo n=>app64' n (.slice none 0 0) [] (w.heap.size+1) (w.alloc o) (nil_row _ _) (by simp) (by decide)
  rcases hk with rfl|rfl|rfl
  · obtain rfl:x=id:=by simpa using hx
    clear hx
    go_enter func159,ntmps159
    go_wp2_with (go_at_call 198;go_fit (hc.out _ x);rintro e w1 ⟨v1,rfl,h1⟩)
    go_ret
    exact⟨v1,rfl,Fresh.of h1⟩
  all_goals
    obtain rfl:x=num:=by simpa using hx
    clear hx
    go_enter func159,ntmps159
    go_wp2_with (go_at_call 198;go_fit (hc.out _ x);rintro e w1 ⟨v1,rfl,h1⟩)
    go_ret
    exact⟨v1,rfl,Fresh.of h1⟩
theorem jbody_bare (kind lane id num:Nat)(pass:Bool)(ea:Option Addr)(en ec:Nat)(w:World)(hk:kind=3\/kind=7):
    Calls prog 159 #[.agg #[.int .i64 kind,.int .i64 lane,.slice ea en ec,.int .i64 id,.bool pass,.int .i64 num]] w λe w'=>∃v',e=.returned v'/\Fresh w w' v' []:=by
  rcases hk with rfl|rfl
  all_goals
    go_enter func159,ntmps159
    go_wp2
    go_ret
    exact⟨_,rfl,Fresh.of (Apped.refl (nil_row _ _))⟩
theorem jbody_submit (lane id num:Nat)(pass:Bool)(es:List Ed)(b off cap:Nat)(w:World)(hlane:lane<256)(hsm:Small es)(hlt:b<w.heap.size)(h0:∀i (h:i<es.length),w.cell? ⟨b,off+i*3,none⟩=some (.string es[i].1))(h1:∀i (h:i<es.length),w.cell? ⟨b,off+i*3+1,none⟩=some (.string es[i].2.1))(h2:∀i (h:i<es.length),w.cell? ⟨b,off+i*3+2,none⟩=some (.string es[i].2.2))(body:List UInt8)(hbody:body=subB lane es es.length++be 8 id):
    Calls prog 159 #[.agg #[.int .i64 1,.int .i64 lane,.slice (some ⟨b,off,none⟩) es.length cap,.int .i64 id,.bool pass,.int .i64 num]] w λe w'=>∃v',e=.returned v'/\Fresh w w' v' body:=by
  have hm:(lane:Int)%256=lane:=by omega
  have hc:Hid (∀o,Calls prog 160 #[.slice none 0 0,.int .u8 (lane:Int)] (w.alloc o) λe w'=>∃v',e=.returned v'/\App (w.heap.size+1) (w.alloc o) w' (.slice none 0 0) v' ([]++be 1 lane)):=λo=>app8' lane hlane (.slice none 0 0) [] (w.heap.size+1) (w.alloc o) (nil_row _ _) (by simp) (by decide)
  have hel:=edsB_len hsm es.length
  have hsub:Hid (([]++be 1 lane++edsB es es.length)++be 8 id=body):=by
    show _=_
    rw[hbody,subB,edsB];simp[List.append_assoc]
  have nb:Hid ((Value.slice none 0 0).ownBlock≠some b):=by show _≠_;simp[Value.ownBlock]
  have nw:Hid ((Value.slice none 0 0).ownBlock≠some w.heap.size):=by show _≠_;simp[Value.ownBlock]
  have L1:([]++be 1 lane:List UInt8).length=1:=by simp[be_len]
  have L2:([]++be 1 lane++edsB es es.length:List UInt8).length<1099511627776:=by rw[List.length_append,L1];omega
  clear hbody hlane
  go_enter func159,ntmps159
  go_wp2_with (first
    |(go_at_call 160;go_fit (hc.out _);rintro e w1 ⟨v1,rfl,k1⟩;have K1:Hid _:=k1;have c2:w1.cell? ⟨w.heap.size,2,none⟩=some (.slice (some ⟨b,off,none⟩) es.length cap):=Apped.keeps k1 (by simp) nw.out;have c3:w1.cell? ⟨w.heap.size,3,none⟩=some (.int .i64 id):=Apped.keeps k1 (by simp) nw.out;have n1:Hid (v1.ownBlock≠some w.heap.size):=Apped.apart k1 (by simp) nw.out)
    |fail)
  have hA1:=K1.out
  have hE:=appEdits es hsm b off cap v1 ([]++be 1 lane) (w.heap.size+1) w1 (Apped.row hA1) (Nat.le_trans (by simp) (Apped.grown hA1).size) (by omega)
    (λi hi=>Apped.keeps hA1 (jcell_after (below_new _ _) (h0 i hi)) nb.out) (λi hi=>Apped.keeps hA1 (jcell_after (below_new _ _) (h1 i hi)) nb.out) (λi hi=>Apped.keeps hA1 (jcell_after (below_new _ _) (h2 i hi)) nb.out) (by rw[L1];decide)
  refine hE.mono ?_
  rintro e w2 ⟨v2,rfl,k2⟩
  have d3:w2.cell? ⟨w.heap.size,3,none⟩=some (.int .i64 id):=Apped.keeps k2 c3 n1.out
  have hI:=app64' id v2 ([]++be 1 lane++edsB es es.length) (w.heap.size+1) w2 (Apped.row k2) (Nat.le_trans (by simp) (Nat.le_trans (Apped.grown hA1).size (Apped.grown k2).size)) L2
  have K2:Hid (App (w.heap.size+1) _ w2 _ v2 _):=Apped.trans hA1 k2
  clear hE k2 hA1 K1 c2 c3
  go_wp2_with (go_at_call 198;go_fit hI;rintro e w3 ⟨v3,rfl,k3⟩)
  go_ret
  refine⟨v3,rfl,?_⟩
  have:=Fresh.of (Apped.trans K2.out k3)
  rwa [hsub.out] at this
theorem recB_len {k:Nat}{body:List UInt8}:(be 1 k++be 4 body.length++body).length=5+body.length:=by
  rw[List.length_append,List.length_append,be_len,be_len]
def Bx (w:World)(b:Nat)(t:TypeId)(cs:Array Value):Prop:=w.heap[b]? =some (.cells cs t (0,0))
theorem Bx.cell {w:World}{b:Nat}{t:TypeId}{cs:Array Value}(h:Bx w b t cs){i:Nat}{v:Value}(hv:cs[i]? =some v):w.cell? ⟨b,i,none⟩=some v:=by
  unfold Bx at h;simp[World.cell?,h,hv]
theorem Bx.c {w:World}{b:Nat}{t:TypeId}{cs:Array Value}(h:Bx w b t cs)(i:Nat)(v:Value)(hv:cs[i]?=some v:=by rfl):w.cell? ⟨b,i,none⟩=some v:=h.cell hv
theorem Bx.fr {w:World}{b:Nat}{t:TypeId}{cs:Array Value}(h:Bx w b t cs)(i:Nat):w.frozen? ⟨b,i,none⟩=false:=by
  unfold Bx at h;simp[World.frozen?,h]
theorem Bx.new (w:World)(cs:Array Value)(t:TypeId):Bx (w.alloc (.cells cs t)) w.heap.size t cs:=by
  show (w.heap.push _)[w.heap.size]? =_
  simp
theorem Bx.lt {w:World}{b:Nat}{t:TypeId}{cs:Array Value}(h:Bx w b t cs):b<w.heap.size:=(Array.getElem?_eq_some_iff.1 h).1
theorem Bx.grown {w w':World}{b:Nat}{t:TypeId}{cs:Array Value}{row:Option Nat}(h:Bx w b t cs)(hg:w.grownBy w' row)(hne:some b≠row):Bx w' b t cs:=(hg.block b h.lt hne).trans h
theorem Bx.mk {w:World}{b:Nat}{t:TypeId}{cs:Array Value}(h:Bx w b t cs)(o:Obj):Bx (w.alloc o) b t cs:=h.grown (World.grownBy_alloc w o none) (by simp)
theorem Bx.set {w:World}{b:Nat}{t:TypeId}{cs:Array Value}(h:Bx w b t cs)(i:Nat)(u:Value):Bx (w.setCell ⟨b,i,none⟩ u) b t (cs.setIfInBounds i u):=by
  unfold Bx at h ⊢
  simp[World.setCell,Array.getElem?_modify,h]
theorem Bx.other {w:World}{b c:Nat}{t:TypeId}{cs:Array Value}(h:Bx w b t cs)(hne:c≠b)(i:Nat)(u:Value):Bx (w.setCell ⟨c,i,none⟩ u) b t cs:=h.grown (grown_set w c i u) (λe=>hne (by simpa using e.symm))
theorem below_set {B:Nat}{w wr:World}(h:Below B w wr){b:Nat}(hb:B<=b)(o:Nat)(u:Value):Below B w (wr.setCell ⟨b,o,none⟩ u):=h.setCell hb u
def zeroR:Array Value:=#[.int .i64 0,.int .i64 0,.slice none 0 0,.int .i64 0,.bool false,.int .i64 0]
def W3 (w:World)(kind:Nat)(v:Value):World:=((w.alloc (.cells zeroR 140)).alloc (.cells #[.int .i64 kind,.int .i64 0,.slice none 0 0,.int .i64 0,.bool false,.int .i64 0] 140)).alloc (.cells #[v,.bool false] 205)
end Go.Proofs.YtgamgomepdfgdaaGreat
