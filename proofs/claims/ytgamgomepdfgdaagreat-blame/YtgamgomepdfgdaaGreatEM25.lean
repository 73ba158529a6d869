import Derived.Test.YtgamgomepdfgdaaGreatEM21
import Derived.Test.YtgamgomepdfgdaaGreatEM22
set_option maxRecDepth 100000
set_option maxHeartbeats 8000000
namespace Go.Proofs.YtgamgomepdfgdaaGreat
open Go.RowKit Go.Proofs.Tryz
def RecIn (W:World)(B:Nat)(r:Rc)(cs:List Value):Prop:=∃(l:Nat) (ea:Option Addr) (en ec i:Nat) (p:Bool) (q:Nat),cs=[.int .i64 r.kind,.int .i64 l,.slice ea en ec,.int .i64 i,.bool p,.int .i64 q]/\RecQ r B W l (.slice ea en ec) i p q
theorem Half.kept {W W':World}{g n k:Nat}{es:List Ed}(h:Half W g n k es)(hn:es.length=n)(hk:k=n)(hs:W.heap.size<=W'.heap.size)(hb:∀g s,W.cell? ⟨g,0,none⟩=some (.string s)->W'.heap[g]? =W.heap[g]?):Half W' g n k es:=by
  subst hk
  by_cases h0:k=0
  · subst h0
    exact⟨Nat.lt_of_lt_of_le h.1 hs,λj hj=>by omega,λi _ h=>by omega⟩
  · have e:=hb g _ (by simpa using (h.2.2 0 (by omega) (by omega)).1)
    refine⟨Nat.lt_of_lt_of_le h.1 hs,λj hj=>⟨?_,?_⟩,λi hi hik=>?_⟩
    · obtain⟨v,hv⟩:=(h.2.1 j hj).1
      exact⟨v,(World.cell?_of_block (w:=W) e).trans hv⟩
    · rw[<-(h.2.1 j hj).2];simp[World.frozen?,e]
    · obtain⟨a0,a1,a2⟩:=h.2.2 i hi hik
      exact⟨(World.cell?_of_block (w:=W) e).trans a0,(World.cell?_of_block (w:=W) e).trans a1,(World.cell?_of_block (w:=W) e).trans a2⟩
theorem RecQ.low {r:Rc}{B B':Nat}{W:World}{l:Nat}{ev:Value}{i:Nat}{p:Bool}{q:Nat}(h:RecQ r B W l ev i p q)(hB:B'<=B):RecQ r B' W l ev i p q:=by
  obtain⟨hp,⟨h1,h2,h3,h4,g,h5,h6,h7⟩|h⟩:=h
  · exact⟨hp,.inl ⟨h1,h2,h3,h4,g,h5,Nat.le_trans hB h6,h7⟩⟩
  · exact⟨hp,.inr h⟩
theorem RecQ.kept {r:Rc}{B:Nat}{W W':World}{l:Nat}{ev:Value}{i:Nat}{p:Bool}{q:Nat}(h:RecQ r B W l ev i p q)(hs:W.heap.size<=W'.heap.size)(hb:∀g s,W.cell? ⟨g,0,none⟩=some (.string s)->W'.heap[g]? =W.heap[g]?):RecQ r B W' l ev i p q:=by
  obtain⟨hp,⟨h1,h2,h3,h4,g,h5,h6,h7⟩|h⟩:=h
  · exact⟨hp,.inl ⟨h1,h2,h3,h4,g,h5,h6,h7.kept rfl rfl hs hb⟩⟩
  · exact⟨hp,.inr h⟩
theorem RecIn.kept {r:Rc}{B:Nat}{W W':World}{cs:List Value}(h:RecIn W B r cs)(hs:W.heap.size<=W'.heap.size)(hb:∀g s,W.cell? ⟨g,0,none⟩=some (.string s)->W'.heap[g]? =W.heap[g]?):RecIn W' B r cs:=by
  obtain⟨l,ea,en,ec,i,p,q,e,h⟩:=h
  exact⟨l,ea,en,ec,i,p,q,e,h.kept hs hb⟩
structure Recs (W:World)(B:Nat)(rs:List Rc)(css:List (List Value)):Prop where
  len:css.length=rs.length
  each:∀j (h:j<rs.length) (h':j<css.length),RecIn W B rs[j] css[j]
theorem Recs.kept {B:Nat}{W W':World}{rs:List Rc}{css:List (List Value)}(h:Recs W B rs css)(hs:W.heap.size<=W'.heap.size)(hb:∀g s,W.cell? ⟨g,0,none⟩=some (.string s)->W'.heap[g]? =W.heap[g]?):Recs W' B rs css:=
  ⟨h.len,λj h1 h2=>(h.each j h1 h2).kept hs hb⟩
theorem Recs.nil (W:World)(B:Nat):Recs W B [] []:=⟨rfl,λj h=>by simp at h⟩
theorem Recs.snoc {B:Nat}{W:World}{rs:List Rc}{css:List (List Value)}{r:Rc}{cs:List Value}(h:Recs W B rs css)(hr:RecIn W B r cs):Recs W B (rs++[r]) (css++[cs]):=by
  refine⟨by rw[List.length_append,List.length_append,h.len];rfl,λj h1 h2=>?_⟩
  by_cases hj:j<rs.length
  · rw[List.getElem_append_left hj,List.getElem_append_left (by rw[h.len];exact hj)]
    exact h.each j hj (by rw[h.len];exact hj)
  · have e:j=rs.length:=by rw[List.length_append] at h1;simp at h1;omega
    subst e
    have e2:(css++[cs])[rs.length]'h2=cs:=by
      rw[List.getElem_append_right (by rw[h.len];exact Nat.le_refl _)];simp[h.len]
    rw[e2]
    simpa using hr
theorem Recs.flat {B:Nat}{W:World}{rs:List Rc}{css:List (List Value)}(h:Recs W B rs css):∀cs∈css,cs.length=6:=by
  intro cs hc
  obtain⟨j,hj,rfl⟩:=List.mem_iff_getElem.1 hc
  obtain⟨l,ea,en,ec,i,p,q,e,_⟩:=h.each j (by rw[<-h.len];exact hj) hj
  rw[e];rfl
theorem info_rec:(prog.info? 140).map (λi=>(i.zero,i.size,i.bytes))=some (some (.agg zeroR),6,64):=by kernel_rfl
def TornOf (T:List UInt8):Prop:=∃(r:Rc) (m:Nat),r.ok/\m<9+r.body.length/\T=(recB r.kind r.body).take m
def allB (rs:List Rc):List UInt8:=rs.flatMap Rc.bytes
theorem allB_take {rs:List Rc}{k:Nat}(h:k<rs.length):allB (rs.take (k+1))=allB (rs.take k)++rs[k].bytes:=by
  rw[allB,List.take_succ_eq_append_getElem h,List.flatMap_append];simp[allB]
theorem allB_drop (rs:List Rc)(k:Nat)(T:List UInt8):(allB rs++T).drop (allB (rs.take k)).length=allB (rs.drop k)++T:=by
  have e:allB rs=allB (rs.take k)++allB (rs.drop k):=by
    rw[allB,allB,allB,<-List.flatMap_append,List.take_append_drop]
  rw[e,List.append_assoc,List.drop_left' rfl]
theorem allB_le (rs:List Rc)(k:Nat)(T:List UInt8):(allB (rs.take k)).length<=(allB rs++T).length:=by
  have e:allB rs=allB (rs.take k)++allB (rs.drop k):=by
    rw[allB,allB,allB,<-List.flatMap_append,List.take_append_drop]
  rw[e,List.length_append,List.length_append];omega
theorem BV.tail {w:World}{a:Option Addr}{c:Nat}{R:List UInt8}(h:BV w (.slice a R.length c) R){n o:Nat}(hn:n<=R.length)(g off:Nat)(ha:a=some ⟨g,off,none⟩)(ho:o=off+n\/c-n=0):BV w (.slice (some ⟨g,o,none⟩) (R.length-n) (c-n)) (R.drop n):=by
  subst ha
  rcases h with ⟨_,h⟩|⟨g',off',cap,h1,h2,h3,h4,h5⟩
  · cases h
  · cases h1
    refine .inr ⟨g,o,c-n,by rw[List.length_drop],by rw[List.length_drop];omega,⟨by omega,by rw[List.length_drop];omega⟩,h4,λi hi=>?_⟩
    rw[List.length_drop] at hi
    rcases ho with rfl|ho
    · rw[List.getElem_drop,Nat.add_assoc];exact h5 (n+i) (by omega)
    · omega
theorem row_apart {W:World}{base:Nat}{t:TypeId}{n:Nat}{v:Value}{xs:List Value}(h:W.ownsRow base t 6 v n xs)(hf:n=0->v=.slice none 0 0)(h1:0<n->∃x,xs[0]? =some (.int .i64 x)){g:Nat}{s:ByteArray}(hc:W.cell? ⟨g,0,none⟩=some (.string s)):v.ownBlock≠some g:=λe=>by
  by_cases h0:n=0
  · rw[hf h0] at e;simp[Value.ownBlock] at e
  · obtain⟨x,hx⟩:=h1 (by omega)
    rcases h.2 with ⟨rfl,_⟩|⟨g',cap,cur,rfl,_⟩
    · simp[Value.ownBlock] at e
    · have e':g'=g:=by simpa[Value.ownBlock] using e
      subst e'
      have:=h.cells (g:=g') rfl 0 _ hx
      rw[addr_add] at this
      rw[this] at hc
      cases hc
theorem Recs.first {B:Nat}{W:World}{rs:List Rc}{css:List (List Value)}(h:Recs W B rs css)(h0:0<rs.length):∃x,css.flatten[0]? =some (.int .i64 x):=by
  have hl:=h.len
  cases css with
  |nil=>simp at hl;omega
  |cons cs css=>
    obtain⟨l,ea,en,ec,i,p,q,e,_⟩:=h.each 0 h0 (by simp)
    have e':cs=_:=e
    subst e'
    exact⟨_,rfl⟩
theorem cells_at (w:World)(cs:List Value)(t:TypeId):∀j u,cs[j]? =some u->(w.alloc (.cells cs.toArray t)).cell? ((⟨w.heap.size,0,none⟩:Addr).add j)=some u:=by
  intro j u h
  rw[addr_add,Nat.zero_add]
  have hb:Bx (w.alloc (.cells cs.toArray t)) w.heap.size t cs.toArray:=Bx.new w _ t
  exact hb.cell (by simpa using h)
theorem cells_at2 (w:World)(o:Obj)(cs:List Value)(t:TypeId):∀j u,cs[j]? =some u->((w.alloc o).alloc (.cells cs.toArray t)).cell? ((⟨w.heap.size+1,0,none⟩:Addr).add j)=some u:=by
  intro j u h
  have:=cells_at (w.alloc o) cs t j u h
  simpa using this
theorem cell_alloc2 {w:World}{b o:Nat}{v:Value}(h:w.cell? ⟨b,o,none⟩=some v)(o1 o2:Obj):((w.alloc o1).alloc o2).cell? ⟨b,o,none⟩=some v:=jcell_after (below_new _ _) (jcell_after (below_new _ _) h)
theorem grown_string {w w':World}{row:Option Nat}(hg:w.grownBy w' row){g:Nat}{s:ByteArray}(hc:w.cell? ⟨g,0,none⟩=some (.string s))(hne:row≠some g):w'.heap[g]? =w.heap[g]? :=hg.block g (jcell_lt hc) (λe=>hne e.symm)
theorem below_at_new' {w wr w2:World}{b:Nat}(h:Below w.heap.size w wr)(hg:wr.grownBy w2 (some b))(hb:w.heap.size<=b):Below w.heap.size w w2:=below_at_new h hg hb
theorem room64 {k:Nat}(h:k<1099511627776):(k+1)*64<=140737488355328:=Nat.le_trans (Nat.mul_le_mul_right 64 (show k+1<=1099511627776 by omega)) (by decide)
theorem read_walk (rs:List Rc)(T L:List UInt8)(v:Value)(w:World)(hok:∀r∈rs,r.ok)(hT:TornOf T)(hL:L=allB rs++T)(hV:BV w v L)(hn:rs.length<1099511627776):
    Calls prog 74 #[v] w λe w'=>(∃rv css,e=.returned (.tuple #[rv,.int .i64 (allB rs).length])/\Recs w' w.heap.size rs css/\w'.ownsRow w.heap.size 140 6 rv rs.length css.flatten)/\Below w.heap.size w w':=by
  obtain⟨i0,hi,hz0,hz1,hz2⟩:=info_parts info_rec
  obtain⟨a,c,rfl,hc1,hc2,hc3⟩:=hV.len
  have HV:Hid (BV w (.slice a L.length c) L):=hV
  have HL:Hid (L=allB rs++T):=hL
  clear hV hL
  go_enter func74,ntmps74
  go_wp2_with fail
  go_loopw [2,3,4,5,6] (λrv sv _ _ _ wr=>∃(k:Nat) (css:List (List Value)),k<=rs.length/\sv=.int .i64 (allB (rs.take k)).length/\Hid (k=0->rv=.slice none 0 0)/\Hid (Recs wr w.heap.size (rs.take k) css)/\Hid (wr.ownsRow w.heap.size 140 6 rv k css.flatten)/\Hid (Below w.heap.size w wr)) (λ_ sv _ _ _ _=>(allB rs).length+1-(intOf sv).toNat)
  case atStart=>exact⟨0,[],Nat.zero_le _,rfl,λ_=>rfl,Recs.nil _ _,World.ownsRow_nil _ _ _ _,Below.refl _ _⟩
  case round=>
    obtain⟨k,css,hk,rfl,hnil,hR,hrow,hB⟩:=hrel
    have hnL:(allB (rs.take k)).length<=L.length:=by rw[HL.out];exact allB_le rs k T
    have hdr:Hid (L.drop (allB (rs.take k)).length=allB (rs.drop k)++T):=by
      show _=_
      rw[HL.out];exact allB_drop rs k T
    generalize hnn:(allB (rs.take k)).length=n at hnL hdr
    have HN:Hid ((allB (rs.take k)).length=n):=hnn
    have HVr:Hid (BV wr (.slice a L.length c) L):=by
      have h:=HV.out
      rcases h with h|⟨g,off,cap,h1,h2,h3,h4,h5⟩
      · exact .inl h
      · exact .inr ⟨g,off,cap,h1,h2,h3,Nat.lt_of_lt_of_le h4 hB.out.size,λi hi=>(World.cell?_of_block (w:=w) (hB.out.block g h4)).trans (h5 i hi)⟩
    clear hnn
    go_upto_region 1 with fail
    go_cut [4] from 7 to 28 (λs4 wz=>s4=.pointer (some ⟨wr.heap.size,0,none⟩)/\∃v1,wz=wr.alloc (.cells #[v1,.bool false] 205)/\Hid (BV wr v1 (L.drop n)))
    case first=>
      rcases HVr.out with ⟨rfl,h'⟩|⟨g,off,cap,h1,h2,h3,h4,h5⟩
      · simp only[List.length_nil,Value.slice.injEq,true_and] at h'
        obtain⟨rfl,rfl⟩:=h'
        obtain rfl:n=0:=by simpa using hnL
        go_wp2_with fail
        go_meet
        case rel=>exact⟨rfl,_,rfl,.inl ⟨rfl,rfl⟩⟩
      · cases h1
        have K:Hid (∀o,(o=off+n\/c-n=0)->BV wr (.slice (some ⟨g,o,none⟩) (L.length-n) (c-n)) (L.drop n)):=λo ho=>BV.tail HVr.out hnL g off rfl ho
        clear h4 h5
        by_cases hcn:c=n
        · subst hcn
          go_wp2_with fail
          go_meet
          case rel=>
            have hL0:L.length-c=0:=by omega
            have:=K.out off (.inr (Nat.sub_self c))
            rw[hL0,Nat.sub_self] at this
            exact⟨rfl,_,rfl,this⟩
        · go_wp2_with fail
          go_meet
          case rel=>exact⟨rfl,_,rfl,K.out _ (.inl rfl)⟩
    case rest=>
      obtain⟨rfl,v1,rfl,hV1⟩:=hcut
      rw[hdr.out] at hV1
      have C1:Cur (wr.alloc (.cells #[v1,.bool false] 205)) wr.heap.size v1 false:=Bx.new wr #[v1,.bool false] 205
      have V1:BV (wr.alloc (.cells #[v1,.bool false] 205)) v1 (allB (rs.drop k)++T):=hV1.out.grown (World.grownBy_alloc _ _ _)
      have hBs:=hB.out.size
      by_cases hlk:k<rs.length
      · have hro:=hok _ (List.getElem_mem hlk)
        have hdk:allB (rs.drop k)++T=recB rs[k].kind rs[k].body++(allB (rs.drop (k+1))++T):=by
          rw[List.drop_eq_getElem_cons hlk,allB,List.flatMap_cons,Rc.bytes_eq,List.append_assoc];rfl
        have hW:=record_whole wr.heap.size v1 rs[k].kind rs[k].body (allB (rs.drop (k+1))++T) _ (RecQ rs[k]) _ C1 V1 (Rc.kind_lt hro) (Rc.body_lt hro) hdk (back_rec rs[k] hro)
        have htk:Hid (allB (rs.take (k+1))=allB (rs.take k)++rs[k].bytes/\rs.take (k+1)=rs.take k++[rs[k]]):=⟨allB_take hlk,List.take_succ_eq_append_getElem hlk⟩
        have hdl:Hid (L.length-(allB (rs.drop (k+1))++T).length=(allB (rs.take (k+1))).length/\(allB (rs.drop (k+1))++T).length<=L.length/\n<(allB (rs.take (k+1))).length/\(allB (rs.take (k+1))).length<=(allB rs).length):=by
          have a1:=allB_le rs (k+1) T
          have a2:=congrArg List.length (allB_drop rs (k+1) T)
          have a3:=allB_le rs (k+1) []
          rw[List.length_drop] at a2
          rw[<-HL.out] at a1 a2
          rw[List.append_nil] at a3
          have a4:(allB (rs.take (k+1))).length=n+(9+rs[k].body.length):=by
            rw[allB_take hlk,List.length_append,HN.out,Rc.bytes_eq,recB_len']
          refine⟨?_,?_,?_,a3⟩
          · omega
          · omega
          · omega
        clear C1 V1 hV1 hdk
        go_wp2_with fail
        go_fit hW
        rintro e w2 ⟨⟨l,ea,en,ec,i,p,q,B,rfl,hBl,hQ⟩,⟨v2,hC2,hV2,hO2⟩,hg2⟩
        obtain⟨a2,c2,rfl,_,_,_⟩:=hV2.len
        generalize hD:allB (rs.drop (k+1))++T=D at *
        generalize hrk:rs[k]=r at *
        have G2:Hid (wr.grownBy w2 (some wr.heap.size)):=(World.grownBy_alloc wr _ _).trans hg2
        have hBw:w.heap.size<=B:=by
          have e1:(wr.alloc (.cells #[v1,.bool false] 205)).heap.size=wr.heap.size+1:=by simp
          omega
        have Q2:Hid (RecQ r w.heap.size w2 l (.slice ea en ec) i p q):=RecQ.low hQ hBw
        have R2:Hid (w2.ownsRow w.heap.size 140 6 u2 k css.flatten):=World.ownsRow.kept hrow.out G2.out (by
            cases hb:u2.ownBlock with
            |none=>exact .inl rfl
            |some g=>exact .inr (λe=>by
                have:=(World.ownsRow.lt hrow.out g hb).2
                cases e;omega))
        have N2:Hid (u2.ownBlock≠some wr.heap.size):=λe=>by
          have:=(World.ownsRow.lt hrow.out _ e).2
          omega
        have c20:=hC2.c0
        have q1:Hid (k+1<=maxLen):=by show _<=_;unfold maxLen;omega
        have q2:Hid ((k+1)*64<=140737488355328):=room64 (by omega)
        have q3:Hid (∀o1 o2,w.heap.size<=((w2.alloc o1).alloc o2).heap.size):=λo1 o2=>by
          have:=G2.out.size
          show w.heap.size<=_
          simp;omega
        have hsubI:(L.length:Int)-(D.length:Int)=((allB (rs.take (k+1))).length:Int):=by
          have:=hdl.out;omega
        clear hW hC2 hV2 hO2 hg2 hQ hBl hro hok
        go_wp2_with (at_builtin;refine wpList_append_own_at _ rfl (.tmp 19) (.tmp 21) _ rfl w.heap.size _ i0 _ 6 64 underlying141 hi hz0 hz1 hz2 rfl (by decide) u2 _ _ rfl (World.ownsRow.alloc (World.ownsRow.alloc R2.out _) _) ⟨w2.heap.size+1,0,none⟩ 1 1 [.int .i64 r.kind,.int .i64 l,.slice ea en ec,.int .i64 i,.bool p,.int .i64 q] rfl rfl (cells_at2 w2 _ _ _) (by simp[Value.oneCell']) q1.out q2.out (q3.out _ _) ?_;intro v3 w3 hown3 hg3 hnil3 hloc3;have c30:w3.cell? ⟨wr.heap.size,0,none⟩=some (.slice a2 D.length c2):=hg3.cell (cell_alloc2 c20 _ _) (λe=>N2.out e.symm);have O3:Hid _:=hown3;have G3:Hid _:=hg3;clear hown3 hg3 hnil3 hloc3)
        have hkl:(rs.take k).length=k:=by rw[List.length_take,Nat.min_eq_left hk]
        have hfirst:0<k->∃x,css.flatten[0]? =some (.int .i64 x):=λh=>Recs.first hR.out (by rw[hkl];exact h)
        have keep:∀g s,w2.cell? ⟨g,0,none⟩=some (.string s)->w3.heap[g]? =w2.heap[g]? :=λg s hc=>by
          have hlt:=jcell_lt hc
          have hne:=row_apart R2.out hnil.out hfirst hc
          rw[World.grownBy.block G3.out g (by simp;omega) (λe=>hne e.symm),Below.heap_alloc _ _ _ (by simp;omega),Below.heap_alloc _ _ _ hlt]
        have hs3:w2.heap.size<=w3.heap.size:=Nat.le_trans (by simp;omega) (World.grownBy.size G3.out)
        refine⟨⟨k+1,css++[[.int .i64 r.kind,.int .i64 l,.slice ea en ec,.int .i64 i,.bool p,.int .i64 q]],hlk,rfl,λh=>by omega,?_,?_,?_⟩,by have:=hdl.out;simp[intOf];omega⟩
        · show Recs w3 w.heap.size (rs.take (k+1)) _
          rw[htk.out.2]
          refine Recs.snoc (Recs.kept hR.out (Nat.le_trans G2.out.size hs3) λg s hc=>?_) ⟨l,ea,en,ec,i,p,q,rfl,RecQ.kept Q2.out hs3 keep⟩
          have hlt:=jcell_lt hc
          have e2:=grown_string G2.out hc (λe=>by cases e;omega)
          rw[keep g s ((World.cell?_of_block (w:=wr) e2).trans hc),e2]
        · show w3.ownsRow _ _ _ _ _ _
          rw[List.flatten_append,List.flatten_singleton]
          exact O3.out
        · have hb2:Below w.heap.size w w2:=below_at_new hB.out G2.out hBs
          exact((hb2.alloc hb2.size _).alloc (by have:=hb2.size;simp;omega) _).grown G3.out (by have:=hb2.size;simp;omega) (λj hj=>(World.ownsRow.lt R2.out j hj).1)
      · obtain rfl:k=rs.length:=by omega
        obtain⟨r0,m,hr0,hm,hTe⟩:=hT
        have V1':BV (wr.alloc (.cells #[v1,.bool false] 205)) v1 T:=by
          have:=V1
          rw[List.drop_length] at this
          simpa[allB] using this
        have hW:=record_torn wr.heap.size v1 r0.kind m r0.body T _ C1 V1' (Rc.body_lt hr0) hm hTe
        clear C1 V1 V1' hV1 hTe
        go_wp2_with fail
        go_fit hW
        rintro e w2 ⟨rfl,hg2⟩
        have G2:Hid (wr.grownBy w2 (some wr.heap.size)):=(World.grownBy_alloc wr _ _).trans hg2
        clear hW hg2
        unfold zeroR
        go_wp2_with fail
        refine bodyPost_ret (v:=.tuple #[u2,.int .i64 n]) (by simp[results,results74,go_sem]) rfl ⟨⟨u2,css,?_,?_,?_⟩,?_⟩
        · rw[<-HN.out,List.take_length]
        · have h1:=hR.out
          rw[List.take_length] at h1
          refine h1.kept (Nat.le_trans G2.out.size (by simp)) λg s hc=>?_
          have hlt:=jcell_lt hc
          rw[Below.heap_alloc _ _ _ (Nat.lt_of_lt_of_le hlt G2.out.size)]
          exact grown_string G2.out hc (λe=>by cases e;omega)
        · exact World.ownsRow.alloc (World.ownsRow.kept hrow.out G2.out (by
            cases hb:u2.ownBlock with
            |none=>exact .inl rfl
            |some g=>exact .inr (λe=>by
                have:=(World.ownsRow.lt hrow.out g hb).2
                cases e;omega))) _
        · exact(below_at_new' hB.out G2.out hBs).alloc (Nat.le_trans hBs G2.out.size) _
section
open Go.Maps Go.Sort
theorem below_drewd {n:Nat}{w w':World}(h:Below n w w'):Below n w w'.drew:=⟨h.os,h.tape,h.output,h.size,h.block⟩
def SubErr (c:Cfg)(s:Ts)(id lane:Int)(es:List Ed)(k:Int):Prop:=
  (¬ChOK c id lane es/\k=2)\/(ChOK c id lane es/\id.toNat∈s.ids/\k=3)\/(ChOK c id lane es/\id.toNat∉s.ids/\c.queue<=s.queue.length/\k=4)\/(ChOK c id lane es/\id.toNat∉s.ids/\s.queue.length<c.queue/\k=0)
theorem Subm.look {w:World}{sb:Nat}{ids:List Nat}(h:Subm w sb ids){n:Nat}(hn:n<9223372036854775808):
    (Instr.lookup 194 (.map (some sb)) (.int .i64 n) true).run prog w=.ok (.tuple #[.agg #[],.bool (ids.contains n)]) w:=by
  obtain⟨D,h1,h2,h3⟩:=h
  obtain⟨v,ps,hrun,hv⟩:=h1.look_ok lawI underS (zeroU w) (zd:=.agg []) (zp:=[]) unitElem_mk (keyI hn)
  obtain⟨rfl,_⟩:=unitElem_inv hv
  rw[<-h3 n]
  exact hrun
theorem yCheckSubmit (S:Nat->Prop)(yb mb n0:Nat)(c:Cfg)(s:Ts)(kind id lane num:Int)(pass:Bool)(es:List Ed)(ea:Option Addr)(en ec:Nat)(w:World)(hY:YardAt w S yb mb n0 c s)(hE:EditsAt w (.slice ea en ec) es)(hc:CapOK (.slice ea en ec))(hn:es.length<8796093022208)(hq:s.queue.length<=16):
    Calls prog 157 #[.pointer (some ⟨yb,0,none⟩),.agg #[.int .i64 kind,.int .i64 lane,.slice ea en ec,.int .i64 id,.bool pass,.int .i64 num]] w λe w'=>(∃k:Int,e=.returned (.int .i64 k)/\SubErr c s id lane es k)/\Below w.heap.size w w':=by
  obtain⟨q,sb,qv,ov,xt,h,hx⟩:=hY
  have hC:=yChange yb c _ kind id lane num pass es ea en ec (w.alloc (.cells #[.int .i64 kind,.int .i64 lane,.slice ea en ec,.int .i64 id,.bool pass,.int .i64 num] 140)) (h.box.mk _) rfl (hE.later (below_new _ _)) hc hn
  have hql:=h.qlen
  obtain⟨qa,qcap,rfl⟩:=h.que.row.form
  have y6:=h.box.c 6 (.int .i64 c.queue)
  have y9:=h.box.c 9 (.slice qa q.length qcap)
  have y10:=h.box.c 10 (.map (some sb))
  have hU:=h.sub
  have HP:Hid (∀k,SubErr c s id lane es k↔((¬ChOK c id lane es/\k=2)\/(ChOK c id lane es/\id.toNat∈s.ids/\k=3)\/(ChOK c id lane es/\id.toNat∉s.ids/\c.queue<=s.queue.length/\k=4)\/(ChOK c id lane es/\id.toNat∉s.ids/\s.queue.length<c.queue/\k=0))):=λk=>Iff.rfl
  have Hid1:Hid (ChOK c id lane es->1<=id/\id<=1000000):=λh=>⟨h.1,h.2.1⟩
  generalize SubErr c s id lane es=P at HP ⊢
  generalize ChOK c id lane es=r at HP hC Hid1
  have HQL:Hid (q.length=s.queue.length):=hql
  have hq16:q.length<=16:=by omega
  clear h hx hE hql
  go_enter func157,ntmps157
  go_wp2_with fail
  go_fit hC
  rintro e w1 ⟨⟨t,rfl,ht⟩,hb1⟩
  have x3:w1.cell? ⟨w.heap.size,3,none⟩=some (.int .i64 id):=jcell_after hb1 (by simp)
  have hb:Below w.heap.size w w1:=(below_new _ _).trans (hb1.mono (by simp))
  have HB:Hid (Below w.heap.size w w1):=hb
  have z6:=jcell_after hb y6
  have z9:=jcell_after hb y9
  have z10:=jcell_after hb y10
  have hU1:=hU.later hb
  have Ht:Hid (t=true↔r):=ht
  clear y6 y9 y10 hU ht hb hb1 hC
  cases t
  · have F:Hid (P 2):=(HP.out 2).2 (.inl ⟨λx=>Bool.noConfusion (Ht.out.2 x),rfl⟩)
    go_wp2_with fail
    go_ret
    exact⟨⟨2,rfl,F.out⟩,HB.out⟩
  · have hr:r:=Ht.out.1 rfl
    obtain⟨i1,i2⟩:=Hid1.out hr
    obtain⟨n,rfl⟩:∃n:Nat,id=n:=⟨id.toNat,by omega⟩
    have L1:=(show Subm w1.drew sb s.ids from hU1).look (n:=n) (by omega)
    have L2:=λo=>(show Subm (w1.alloc o).drew sb s.ids from hU1.later (below_new_drew _ _)).look (n:=n) (by omega)
    have HR:Hid r:=hr
    have F3:Hid (n∈s.ids->P 3):=λh=>(HP.out 3).2 (.inr (.inl ⟨HR.out,by simpa using h,rfl⟩))
    have F4:Hid (n∉s.ids->c.queue<=q.length->P 4):=λh h'=>(HP.out 4).2 (.inr (.inr (.inl ⟨HR.out,by simpa using h,by rw[<-HQL.out];exact h',rfl⟩)))
    have F0:Hid (n∉s.ids->q.length<c.queue->P 0):=λh h'=>(HP.out 0).2 (.inr (.inr (.inr ⟨HR.out,by simpa using h,by rw[<-HQL.out];exact h',rfl⟩)))
    clear HP hr hU1 Hid1 Ht
    by_cases hm:n∈s.ids
    · have hcn:s.ids.contains n=true:=by simpa using hm
      simp only[hcn] at L1 L2
      have G3:Hid (P 3):=F3.out hm
      clear F3 F4 F0 hm hcn
      go_wp2_with fail
      go_region_held_law (λw'=>w'.cell? ⟨w.heap.size,3,none⟩=some (.int .i64 n)/\w'.cell? ⟨yb,10,none⟩=some (.map (some sb))) (go_keep) (fail)
      all_goals
        go_wp2_with fail
        go_ret
        exact⟨⟨3,rfl,G3.out⟩,HB.out.trans ((below_new_drew _ _).mono HB.out.size)⟩
    · have hcn:s.ids.contains n=false:=by simpa using hm
      simp only[hcn] at L1 L2
      have G4:Hid (c.queue<=q.length->P 4):=F4.out hm
      have G0:Hid (q.length<c.queue->P 0):=F0.out hm
      clear F3 F4 F0 hm hcn
      go_wp2_with fail
      go_cut [5,6] from 7 (λ_ t wz=>t=.bool false/\∃o,wz=(w1.alloc o).drew)
      case first=>
        go_region_held_law (λw'=>w'.cell? ⟨w.heap.size,3,none⟩=some (.int .i64 n)/\w'.cell? ⟨yb,10,none⟩=some (.map (some sb))) (go_keep) (fail)
        all_goals
          go_wp2_with fail
          go_meet
          case rel=>exact⟨rfl,_,rfl⟩
      case rest=>
        obtain⟨rfl,o,rfl⟩:=hcut
        have v6:=jcell_after (below_new_drew w1 o) z6
        have v9:=jcell_after (below_new_drew w1 o) z9
        have HB2:Hid (Below w.heap.size w (w1.alloc o).drew):=HB.out.trans ((below_new_drew _ _).mono HB.out.size)
        clear z6 z9 z10 L1 L2
        generalize (w1.alloc o).drew=w2 at *
        by_cases hlt:q.length<c.queue
        · have K:Hid (P 0):=G0.out hlt
          have hge:¬((c.queue:Int)<=(q.length:Int)):=by omega
          clear G4 G0
          go_wp2_with fail
          go_region_held_law (λw'=>w'.cell? ⟨yb,6,none⟩=some (.int .i64 c.queue)/\w'.cell? ⟨yb,9,none⟩=some (.slice qa q.length qcap)) (go_keep) (fail)
          all_goals
            go_wp2_with fail
            go_ret
            exact⟨⟨0,rfl,K.out⟩,below_drewd HB2.out⟩
        · have K:Hid (P 4):=G4.out (by omega)
          have hge:((c.queue:Int)<=(q.length:Int)):=by omega
          clear G4 G0
          go_wp2_with fail
          go_region_held_law (λw'=>w'.cell? ⟨yb,6,none⟩=some (.int .i64 c.queue)/\w'.cell? ⟨yb,9,none⟩=some (.slice qa q.length qcap)) (go_keep) (fail)
          all_goals
            go_wp2_with fail
            go_ret
            exact⟨⟨4,rfl,K.out⟩,below_drewd HB2.out⟩
end
theorem Only.from_new {w w':World}{o:Obj}{S:Nat->Prop}(h:Only (w.alloc o) w' S):Only w w' S:=(Only.of_below (S:=S) (below_new w o)).trans h λ_ hk=>.inl hk
theorem Plus.from_new {S:Nat->Prop}{w:World}{o:Obj}:∀k,Plus S (w.alloc o) k->Plus S w k:=λk h=>by
  rcases h with h|h
  · exact .inl h
  · exact .inr (by have:(w.alloc o).heap.size=w.heap.size+1:=by simp
                   omega)
theorem yDo1 (S:Nat->Prop)(yb mb n0 id lane num:Nat)(pass:Bool)(b eo ec:Nat)(es:List Ed)(c:Cfg)(s:Ts)(w:World)(hY:YardAt w S yb mb n0 c s)(hn:s.queue.length<=16)(hsm:Small es)(hid:id<=1000000)(hnew:id∉s.ids)(hi:s.ids.length<1048576000)(hlt:b<w.heap.size)(h0:∀i (h:i<es.length),w.cell? ⟨b,eo+i*3,none⟩=some (.string es[i].1))(h1:∀i (h:i<es.length),w.cell? ⟨b,eo+i*3+1,none⟩=some (.string es[i].2.1))(h2:∀i (h:i<es.length),w.cell? ⟨b,eo+i*3+2,none⟩=some (.string es[i].2.2)):
    Calls prog 76 #[.pointer (some ⟨yb,0,none⟩),.agg (recC 1 lane (some ⟨b,eo,none⟩) es.length ec id pass num)] w λe w'=>e=.returned (.tuple #[])/\YardAt w' (Plus S w) yb mb n0 c {s with ids:=s.ids++[id],queue:=s.queue++[⟨id,lane,0,s.ids.length,es⟩]}/\Only w w' S:=by
  have hS:=ySubmit S yb mb n0 1 id lane num pass b eo ec es c s (w.alloc (.cells (recC 1 lane (some ⟨b,eo,none⟩) es.length ec id pass num) 140)) (hY.later (below_new _ _)) hn hsm hid hnew hi (by simp;omega) (λi h=>jcell_after (below_new _ _) (h0 i h)) (λi h=>jcell_after (below_new _ _) (h1 i h)) (λi h=>jcell_after (below_new _ _) (h2 i h))
  have hnm:¬Plus S w mb:=Plus.not hY.nm.1 hY.nm.2
  clear hY h0 h1 h2
  unfold recC at hS ⊢
  go_enter func76,ntmps76
  go_wp2_with fail
  go_fit hS
  rintro e w1 ⟨rfl,hY1,hO1⟩
  have HY:Hid _:=hY1
  have HO:Hid _:=hO1
  clear hY1 hO1 hS
  go_wp2_with fail
  exact bodyPost_end (v:=.tuple #[]) (results_none (by kernel_rfl) _ _ _) rfl ⟨rfl,YardAt.mono HY.out Plus.from_new hnm,Only.from_new HO.out⟩
theorem yDo2 (S:Nat->Prop)(yb mb n0 id:Nat)(c:Cfg)(s:Ts)(w:World)(hY:YardAt w S yb mb n0 c s)(hn:s.queue.length<=16)(hex:∃x∈s.queue,x.id=id)(ho:s.outs.length<1048576000)(ha:s.acked<=s.outs.length):
    Calls prog 76 #[.pointer (some ⟨yb,0,none⟩),.agg #[.int .i64 2,.int .i64 0,.slice none 0 0,.int .i64 id,.bool false,.int .i64 0]] w λe w'=>e=.returned (.tuple #[])/\YardAt w' (Plus S w) yb mb n0 c {s with queue:=s.queue.filter λc=>c.id !=id,outs:=s.outs++[(id,4)]}/\Only w w' S:=by
  have hS:=yWithdraw S yb mb n0 id c s (w.alloc (.cells #[.int .i64 2,.int .i64 0,.slice none 0 0,.int .i64 id,.bool false,.int .i64 0] 140)) (hY.later (below_new _ _)) hn hex ho ha
  have hnm:¬Plus S w mb:=Plus.not hY.nm.1 hY.nm.2
  clear hY hex
  go_enter func76,ntmps76
  go_wp2_with fail
  go_fit hS
  rintro e w1 ⟨rfl,hY1,hO1⟩
  have HY:Hid _:=hY1
  have HO:Hid _:=hO1
  clear hY1 hO1 hS
  go_wp2_with fail
  exact bodyPost_end (v:=.tuple #[]) (results_none (by kernel_rfl) _ _ _) rfl ⟨rfl,YardAt.mono HY.out Plus.from_new hnm,Only.from_new HO.out⟩
theorem yDo6 (S:Nat->Prop)(yb mb n0:Nat)(n:Int)(c:Cfg)(s:Ts)(w:World)(hY:YardAt w S yb mb n0 c s)(ha:s.acked<s.outs.length):
    Calls prog 76 #[.pointer (some ⟨yb,0,none⟩),.agg #[.int .i64 6,.int .i64 0,.slice none 0 0,.int .i64 0,.bool false,.int .i64 n]] w λe w'=>e=.returned (.tuple #[])/\YardAt w' (Plus S w) yb mb n0 c {s with acked:=s.acked+1}/\Only w w' S:=by
  obtain⟨q,sb,qv,ov,xt,h,hx⟩:=hY
  have HX:Hid (xt.n<=n0+4*s.outs.length):=hx
  have HY:Hid (YardIs w S yb mb n0 c s q sb qv ov xt):=h
  have hd:s.outs.drop s.acked=s.outs[s.acked]::s.outs.drop (s.acked+1):=List.drop_eq_getElem_cons ha
  have hS:=h.outs.row
  rw[hd,oc] at hS
  obtain⟨m,hm⟩:∃m,s.outs.length-s.acked=m+1:=⟨s.outs.length-s.acked-1,by omega⟩
  rw[hm] at hS
  have hne:=h.outs.row.ne h.box (by decide)
  have hD:=outDrop yb 15 m 201 ov _ _ _ _ _ (w.alloc (.cells #[.int .i64 6,.int .i64 0,.slice none 0 0,.int .i64 0,.bool false,.int .i64 n] 140)) (h.box.mk _) rfl (hS.mk _) hne
  have Hm:Hid (s.outs.length-(s.acked+1)=m):=by show _=_;omega
  have hyl:=h.box.lt
  clear h hx hS hd hm
  go_enter func76,ntmps76
  go_wp2_with fail
  go_fit hD
  rintro e w1 ⟨rfl,v',hB1,hS1,hv1,hO1⟩
  have HB:Hid _:=hB1
  have HS:Hid _:=hS1
  have HV:Hid _:=hv1
  have HO:Hid _:=hO1
  clear hB1 hS1 hv1 hO1 hD
  go_wp2_with fail
  have h:=HY.out
  have O:OnlyT w w1 S [201,99]:=OnlyT.mk (Only.from_new HO.out) λk hk e=>by
    rcases e with rfl|e
    · exact⟨h.fy,_,by simp,h.box.ty⟩
    · exact⟨h.outs.own k e,_,by simp,h.outs.row.ty e⟩
  obtain⟨tl,zs,hr⟩:=h.rest
  refine bodyPost_end (v:=.tuple #[]) (results_none (by kernel_rfl) _ _ _) rfl ⟨rfl,⟨q,sb,qv,v',xt,⟨h.qs,?_,h.que.keptT O.k (Plus.old w) (by decide) (by decide),O.sub h.sub (by decide),⟨?_,λg hg=>?_⟩,.inl h.fy,.inl h.fs,⟨tl,zs,hr.keptT O.k (Plus.old w) h.np rfl rfl rfl (Nat.le_refl _) (by unfold NoRest NoSeg;decide) (O.map hr.map (by decide))⟩,h.nt⟩,HX.out⟩,O.only⟩
  · have:=HB.out
    rwa [set15] at this
  · show Sl w1 _ 3 v' (s.outs.length-(s.acked+1)) (oc (s.acked+1) (s.outs.drop (s.acked+1)))
    rw[Hm.out];exact HS.out
  · rw[HV.out] at hg;exact .inl (h.outs.own g hg)
theorem yCheck1 (S:Nat->Prop)(yb mb n0:Nat)(c:Cfg)(s:Ts)(id lane:Int)(es:List Ed)(ea:Option Addr)(en ec:Nat)(w:World)(hY:YardAt w S yb mb n0 c s)(hE:EditsAt w (.slice ea en ec) es)(hc:CapOK (.slice ea en ec))(hn:es.length<8796093022208)(hq:s.queue.length<=16):
    Calls prog 110 #[.pointer (some ⟨yb,0,none⟩),.agg #[.int .i64 1,.int .i64 lane,.slice ea en ec,.int .i64 id,.bool false,.int .i64 0]] w λe w'=>(∃k:Int,e=.returned (.int .i64 k)/\SubErr c s id lane es k)/\Below w.heap.size w w':=by
  have hC:=yCheckSubmit S yb mb n0 c s 1 id lane 0 false es ea en ec (w.alloc (.cells #[.int .i64 1,.int .i64 lane,.slice ea en ec,.int .i64 id,.bool false,.int .i64 0] 140)) (hY.later (below_new _ _)) (hE.later (below_new _ _)) hc hn hq
  generalize SubErr c s id lane es=P at hC ⊢
  clear hY hE
  go_enter func110,ntmps110
  go_wp2_with fail
  go_fit hC
  rintro e w1 ⟨⟨k,rfl,hk⟩,hb1⟩
  have HK:Hid (P k):=hk
  have HB:Hid (Below w.heap.size w w1):=(below_new _ _).trans (hb1.mono (by simp))
  clear hk hb1 hC
  go_wp2_with fail
  go_ret
  exact⟨⟨k,rfl,HK.out⟩,HB.out⟩
theorem wpList_append_bytes {P:Program}(w:World){ops:Array Oper}{rest:List Oper}{o:Oper}{a:Act}{Q:Exit->Act->World->Prop}(hgd:o.guard=none)(s x:Operand)(t:TypeId)(ho:o.op=.call {callee:=.builtin .append,args:=#[s,x],argTypes:=#[t,t]})(e:TypeId)(i:TypeInfo)(z:Value)(ht:P.underlying t=some (.slice e))(hi:P.info? e=some i)(hz:i.zero=some z)(hsize:i.size=1)(hby:i.bytes=1)(hzs:z.cells.size=1)(v:Value)(n:Nat)(xs:List Value)(hs:a.eval s=v)(hown:Sl w e 1 v n xs)(u:Value)(m:Nat)(news:List Value)(hx:a.eval x=u)(hsrc:Sl w e 1 u m news)(h1:∀y∈news,y.oneCell'=true)(h63:n+m<=maxLen)(hbytes:(n+m)*1<=140737488355328)(h:∀v' w',Sl w' e 1 v' (n+m) (xs++news)->w.grownBy w' v.ownBlock->(v'.ownBlock=v.ownBlock\/∃g,v'.ownBlock=some g/\w.heap.size<=g)->wpList P ops Q rest (a.put o.dst v') w'):wpList P ops Q (o::rest) a w:=by
  rcases Nat.eq_zero_or_pos m with rfl|hm
  · obtain rfl:news=[]:=List.eq_nil_of_length_eq_zero (by simpa using hsrc.1)
    obtain⟨ua,uc,rfl⟩:=hsrc.form
    obtain⟨va,vc,rfl⟩:=hown.form
    refine wpList_plain hgd λK hK=>?_
    have hl:∀a,Sem.run P (loadCells a 0) w=.ok #[] w:=λa=>run_loadCells_list (P:=P) w a [] (by simp)
    have hr:(Builtin.append_ #[t,t] o.type #[.slice va n vc,.slice ua 0 uc]).run P w=.ok (.slice va n vc) w:=by
      rcases hown.2 with ⟨e1,e2⟩|⟨g,off,cap,cur,e1,hh,hnc,_⟩
      · cases e1
        cases ua<;>simp[Builtin.append_,run_underlying ht,sizeOf,typeInfo,hi,Builtin.lenOf,Builtin.firstCells,hl]
      · cases e1
        cases ua<;>simp[Builtin.append_,run_underlying ht,sizeOf,typeInfo,hi,Builtin.lenOf,Builtin.firstCells,hnc,storeCells,hl]
    unfold Oper.wp execOp
    simp only[ho,resolve,invoke,builtin,Sem.run_bind,Sem.run_pure,Result.andThen_ok,List.map_toArray,List.map_cons,List.map_nil,hs,hx,hr]
    exact hK _ _ (h _ w (by simpa using hown) (World.grownBy.refl _ _) (.inl rfl))
  · obtain⟨g,off,cap,rfl,_⟩:=hsrc.addr hm
    refine wpList_append_sl w hgd s x t ho e i z 1 1 ht hi hz hsize hby hzs (by decide) v n xs hs hown ⟨g,off,none⟩ m cap news hx (by simpa using hsrc.1) (λj y hy=>?_) h1 h63 hbytes h
    have:(⟨g,off,none⟩:Addr).add j=⟨g,off+j,none⟩:=by
      unfold Addr.add
      by_cases h:j=0
      · subst h;simp
      · simp[h]
    rw[this]
    exact hsrc.cell hy
def machCells (c:Cfg)(mb:Nat)(lv up:Value):Array Value:=
  #[.int .i64 c.lanes,.int .i64 c.age,.int .i64 c.batch,.int .i64 c.window,.int .i64 c.retries,.int .i64 c.deadline,.int .i64 c.queue,.map (some mb),lv,up]
def runCells (yb:Nat)(br:Bool)(keep:Int):Array Value:=#[.pointer (some ⟨yb,0,none⟩),.bool br,.int .i64 keep]
structure Wrote (w w':World)(xb mb:Nat)(c:Cfg)(lv up:Value)(L:List UInt8)(lv':Value):Prop where
  box:Bx w' xb 135 (machCells c mb lv' up)
  log:Sl w' 5 1 lv' L.length (bc L)
  blk:lv'.ownBlock=lv.ownBlock\/∃g,lv'.ownBlock=some g/\w.heap.size<=g
  only:Only w w' (λk=>k=xb\/lv.ownBlock=some k)
theorem mWrite (xb mb rb yb:Nat)(c:Cfg)(keep:Int)(lv v:Value)(L l:List UInt8)(w:World)(hB:Bx w xb 135 (machCells c mb lv (.pointer (some ⟨rb,0,none⟩))))(hR:Bx w rb 137 (runCells yb false keep))(hL:Sl w 5 1 lv L.length (bc L))(hl:Sl w 5 1 v l.length (bc l))(hn:L.length<1099511627776)(hm:l.length<1099511627776):
    Calls prog 111 #[.pointer (some ⟨xb,0,none⟩),v] w λe w'=>e=.returned (.tuple #[])/\∃lv',Wrote w w' xb mb c lv (.pointer (some ⟨rb,0,none⟩)) (L++l) lv':=by
  obtain⟨i0,hi,hz0,hz1,hz2⟩:=info_parts info_u8
  obtain⟨la,lc,rfl⟩:=hL.form
  obtain⟨va,vc,rfl⟩:=hl.form
  have c8:w.cell? ⟨xb,8,none⟩=some (.slice la L.length lc):=hB.cell (i:=8) rfl
  have c9:w.cell? ⟨xb,9,none⟩=some (.pointer (some ⟨rb,0,none⟩)):=hB.cell (i:=9) rfl
  have r1:w.cell? ⟨rb,1,none⟩=some (.bool false):=hR.cell (i:=1) rfl
  have hne:=hL.ne hB (by decide)
  have HB:Hid (Bx w xb 135 (machCells c mb (.slice la L.length lc) (.pointer (some ⟨rb,0,none⟩)))):=hB
  have HL:Hid (Sl w 5 1 (.slice la L.length lc) L.length (bc L)):=hL
  have Hl:Hid (Sl w 5 1 (.slice va l.length vc) l.length (bc l)):=hl
  have q1:Hid (L.length+l.length<=maxLen):=by show _<=_;unfold maxLen;omega
  have q2:Hid ((L.length+l.length)*1<=140737488355328):=by show _<=_;omega
  clear hB hR hL hl
  go_enter func111,ntmps111
  go_wp2_with (at_builtin;refine wpList_append_bytes _ rfl _ _ 114 rfl _ i0 _ underlying114 hi hz0 hz1 hz2 rfl (.slice la L.length lc) _ _ rfl HL.out (.slice va l.length vc) _ _ rfl Hl.out (bc_one l) q1.out q2.out ?_;intro v3 w3 hown3 hg3 hloc3;obtain⟨a3,c3,rfl⟩:=hown3.form;have HB3:Hid (Bx w3 xb 135 (machCells c mb (.slice la L.length lc) (.pointer (some ⟨rb,0,none⟩)))):=HB.out.grown hg3 (λe=>hne e.symm);have d8:w3.cell? ⟨xb,8,none⟩=some (.slice la L.length lc):=HB3.out.cell (i:=8) rfl;have f8:=HB3.out.fr 8;have HO3:Hid (Sl w3 5 1 (.slice a3 (L.length+l.length) c3) (L.length+l.length) (bc L++bc l)):=hown3;have HG3:Hid (w.grownBy w3 (Value.slice la L.length lc).ownBlock):=hg3;have HL3:Hid ((Value.slice a3 (L.length+l.length) c3).ownBlock=(Value.slice la L.length lc).ownBlock\/∃g,(Value.slice a3 (L.length+l.length) c3).ownBlock=some g/\w.heap.size<=g):=hloc3;clear hown3 hg3 hloc3)
  have hxl:=HB.out.lt
  have nnb:(Value.slice a3 (L.length+l.length) c3).ownBlock≠some xb:=by
    rcases HL3.out with h|⟨g,h,hg⟩
    · rw[h];exact hne
    · rw[h];intro e;cases e;omega
  refine bodyPost_end (v:=.tuple #[]) (results_none (by kernel_rfl) _ _ _) rfl ⟨rfl,.slice a3 (L.length+l.length) c3,HB3.out.set 8 _,?_,HL3.out,?_⟩
  · rw[List.length_append,bc_append]
    exact Sl.grown HO3.out (grown_set _ _ _ _) (λg hg e=>nnb (by rw[hg];exact e.symm))
  · exact(Only.of_grown HG3.out (S:=λk=>k=xb\/(Value.slice la L.length lc).ownBlock=some k) λk h=>.inr h).set (.inl (.inl rfl))
theorem mWriteBr (xb mb rb yb:Nat)(c:Cfg)(keep:Int)(lv v:Value)(L l:List UInt8)(w:World)(hB:Bx w xb 135 (machCells c mb lv (.pointer (some ⟨rb,0,none⟩))))(hR:Bx w rb 137 (runCells yb true keep))(hL:Sl w 5 1 lv L.length (bc L))(hl:Sl w 5 1 v l.length (bc l))(hn:L.length<1099511627776)(hm:l.length<1099511627776)(k:Nat)(hk:(k:Int)=max 0 (min keep l.length)):
    Calls prog 111 #[.pointer (some ⟨xb,0,none⟩),v] w λe w'=>e=.returned (.tuple #[])/\∃lv',Wrote w w' xb mb c lv (.pointer none) (L++l.take k) lv':=by
  obtain⟨i0,hi,hz0,hz1,hz2⟩:=info_parts info_u8
  obtain⟨la,lc,rfl⟩:=hL.form
  obtain⟨va,vc,rfl⟩:=hl.form
  have c8:w.cell? ⟨xb,8,none⟩=some (.slice la L.length lc):=hB.cell (i:=8) rfl
  have c9:w.cell? ⟨xb,9,none⟩=some (.pointer (some ⟨rb,0,none⟩)):=hB.cell (i:=9) rfl
  have r1:w.cell? ⟨rb,1,none⟩=some (.bool true):=hR.cell (i:=1) rfl
  have r2:w.cell? ⟨rb,2,none⟩=some (.int .i64 keep):=hR.cell (i:=2) rfl
  have hne:=hL.ne hB (by decide)
  have HB:Hid (Bx w xb 135 (machCells c mb (.slice la L.length lc) (.pointer (some ⟨rb,0,none⟩)))):=hB
  have HL:Hid (Sl w 5 1 (.slice la L.length lc) L.length (bc L)):=hL
  have Hl:Hid (Sl w 5 1 (.slice va l.length vc) l.length (bc l)):=hl
  have q1:Hid (L.length+l.length<=maxLen):=by show _<=_;unfold maxLen;omega
  have q2:Hid ((L.length+l.length)*1<=140737488355328):=by show _<=_;omega
  have f9:=hB.fr 9
  have hkl:k<=l.length:=by omega
  have hvc:l.length<=vc:=by
    rcases hl.2 with ⟨h',h0⟩|⟨g,off,cap,cur,h',_,hnc,_⟩
    · injection h' with _ h2 _;omega
    · injection h' with _ h2 h3;omega
  have Hk:Hid (Sl w 5 1 (.slice va k vc) k (bc (l.take k))):=by
    have:=hl.cut hkl
    rw[Nat.mul_one] at this
    show Sl w 5 1 (.slice va k vc) k (bc (l.take k))
    rw[bc,List.map_take]
    exact this
  have Hkl:Hid ((l.take k).length=k):=by show _=_;rw[List.length_take];omega
  clear hB hR hL hl
  go_enter func111,ntmps111
  go_upto_region 1 with fail
  go_cut [1] from 2 (λs wz=>s=.slice va k vc/\wz=w)
  case first=>
    by_cases h1:keep<=(l.length:Int)
    · by_cases h2:0<=keep
      · obtain⟨n,rfl⟩:∃n:Nat,keep=n:=⟨keep.toNat,by omega⟩
        obtain rfl:n=k:=by omega
        clear hk
        have e1:min (n:Int) (l.length:Int)=n:=by omega
        have e2:max 0 (n:Int)=n:=by omega
        go_wp2_with fail
        go_meet
        case rel=>exact⟨rfl,rfl⟩
      · obtain rfl:k=0:=by omega
        clear hk
        have e1:min keep (l.length:Int)=keep:=by omega
        have e2:max 0 keep=0:=by omega
        go_wp2_with fail
        go_meet
        case rel=>exact⟨rfl,rfl⟩
    · obtain rfl:k=l.length:=by omega
      clear hk
      have e1:min keep (l.length:Int)=l.length:=by omega
      have e2:max 0 (l.length:Int)=l.length:=by omega
      go_wp2_with fail
      go_meet
      case rel=>exact⟨rfl,rfl⟩
  case rest=>
    obtain⟨rfl,rfl⟩:=hcut
    rename World=>w
    have q1:Hid (L.length+k<=maxLen):=by show _<=_;unfold maxLen;omega
    have q2:Hid ((L.length+k)*1<=140737488355328):=by show _<=_;omega
    have hxl:=HB.out.lt
    have HBn:Hid (Bx (w.setCell ⟨xb,9,none⟩ (.pointer none)) xb 135 (machCells c mb (.slice la L.length lc) (.pointer none))):=HB.out.set 9 _
    have HLn:Hid (Sl (w.setCell ⟨xb,9,none⟩ (.pointer none)) 5 1 (.slice la L.length lc) L.length (bc L)):=HL.out.grown (grown_set _ _ _ _) (λg hg e=>hne (by rw[hg];exact e.symm))
    have hnk:=Hk.out.ne HB.out (by decide)
    have Hkn:Hid (Sl (w.setCell ⟨xb,9,none⟩ (.pointer none)) 5 1 (.slice va k vc) k (bc (l.take k))):=Hk.out.grown (grown_set _ _ _ _) (λg hg e=>hnk (by rw[hg];exact e.symm))
    have HOn:Hid (Only w (w.setCell ⟨xb,9,none⟩ (.pointer none)) (λk=>k=xb\/(Value.slice la L.length lc).ownBlock=some k)):=(Only.refl w _).set (.inl (.inl rfl))
    have hsz:(w.setCell ⟨xb,9,none⟩ (.pointer none)).heap.size=w.heap.size:=by simp
    clear hk HB HL Hl Hk
    go_upto_region 3 with fail
    generalize w.setCell ⟨xb,9,none⟩ (.pointer none)=wn at *
    have c8n:wn.cell? ⟨xb,8,none⟩=some (.slice la L.length lc):=HBn.out.cell (i:=8) rfl
    clear c8 c9 r1 r2 f9
    go_wp2_with (at_builtin;refine wpList_append_bytes _ rfl _ _ 114 rfl _ i0 _ underlying114 hi hz0 hz1 hz2 rfl (.slice la L.length lc) _ _ rfl HLn.out (.slice va k vc) _ _ rfl Hkn.out (bc_one _) q1.out q2.out ?_;intro v3 w3 hown3 hg3 hloc3;obtain⟨a3,c3,rfl⟩:=hown3.form;have HB3:Hid (Bx w3 xb 135 (machCells c mb (.slice la L.length lc) (.pointer none))):=HBn.out.grown hg3 (λe=>hne e.symm);have d8:w3.cell? ⟨xb,8,none⟩=some (.slice la L.length lc):=HB3.out.cell (i:=8) rfl;have f8:=HB3.out.fr 8;have HO3:Hid (Sl w3 5 1 (.slice a3 (L.length+k) c3) (L.length+k) (bc L++bc (l.take k))):=hown3;have HG3:Hid (wn.grownBy w3 (Value.slice la L.length lc).ownBlock):=hg3;have HL3:Hid ((Value.slice a3 (L.length+k) c3).ownBlock=(Value.slice la L.length lc).ownBlock\/∃g,(Value.slice a3 (L.length+k) c3).ownBlock=some g/\wn.heap.size<=g):=hloc3;clear hown3 hg3 hloc3)
    have nnb:(Value.slice a3 (L.length+k) c3).ownBlock≠some xb:=by
      rcases HL3.out with h|⟨g,h,hg⟩
      · rw[h];exact hne
      · rw[h];intro e;cases e;omega
    refine bodyPost_end (v:=.tuple #[]) (results_none (by kernel_rfl) _ _ _) rfl ⟨rfl,.slice a3 (L.length+k) c3,HB3.out.set 8 _,?_,HL3.out.imp (λh=>h) (λ⟨g,h1,h2⟩=>⟨g,h1,by omega⟩),?_⟩
    · rw[List.length_append,bc_append,Hkl.out]
      exact Sl.grown HO3.out (grown_set _ _ _ _) (λg hg e=>nnb (by rw[hg];exact e.symm))
    · exact(HOn.out.trans (Only.of_grown HG3.out (S:=λk=>k=xb\/(Value.slice la L.length lc).ownBlock=some k) λk h=>.inr h) λk h=>.inl h).set (.inl (.inl rfl))
structure UpIs (w:World)(Y:Nat->Prop)(xb mb n0 rb yb:Nat)(c:Cfg)(s:Ts)(L:List UInt8)(br:Bool)(keep:Int)(lv:Value):Prop where
  box:Bx w xb 135 (machCells c mb lv (.pointer (some ⟨rb,0,none⟩)))
  run:Bx w rb 137 (runCells yb br keep)
  log:Sl w 5 1 lv L.length (bc L)
  yard:YardAt w Y yb mb n0 c s
  nx:¬Y xb
  nr:¬Y rb
  nl:∀g,lv.ownBlock=some g->¬Y g
  yl:∀k,Y k->k<w.heap.size
  fm:TyAt w mb tMap
theorem TyAt.kept {w w':World}{k:Nat}{t:TypeId}(h:TyAt w k t)(he:w'.heap[k]? =w.heap[k]?):TyAt w' k t:=by
  unfold TyAt at h ⊢
  rwa [he]
theorem UpIs.apart {w:World}{Y:Nat->Prop}{xb mb n0 rb yb:Nat}{c:Cfg}{s:Ts}{L:List UInt8}{br:Bool}{keep:Int}{lv:Value}(h:UpIs w Y xb mb n0 rb yb c s L br keep lv):mb≠xb/\mb≠rb/\lv.ownBlock≠some mb/\¬Y mb:=
  ⟨λe=>absurd (h.fm.one (e▸h.box.ty)) (by decide),λe=>absurd (h.fm.one (e▸h.run.ty)) (by decide),λe=>absurd (h.fm.one (h.log.ty e)) (by decide),h.yard.nm.1⟩
theorem mAct_no (Y:Nat->Prop)(xb mb n0 rb yb:Nat)(c:Cfg)(s:Ts)(L:List UInt8)(br:Bool)(keep:Int)(lv:Value)(kind lane id num:Int)(pass:Bool)(ea:Option Addr)(en ec:Nat)(k:Int)(hk:k≠0)(w:World)(hU:UpIs w Y xb mb n0 rb yb c s L br keep lv)(hC:∀W,Below w.heap.size w W->Calls prog 110 #[.pointer (some ⟨yb,0,none⟩),.agg #[.int .i64 kind,.int .i64 lane,.slice ea en ec,.int .i64 id,.bool pass,.int .i64 num]] W λe W'=>e=.returned (.int .i64 k)/\Below W.heap.size W W'):
    Calls prog 73 #[.pointer (some ⟨xb,0,none⟩),.agg #[.int .i64 kind,.int .i64 lane,.slice ea en ec,.int .i64 id,.bool pass,.int .i64 num]] w λe w'=>e=.returned (.int .i64 k)/\Below w.heap.size w w':=by
  have hC1:=hC (w.alloc (.cells #[.int .i64 kind,.int .i64 lane,.slice ea en ec,.int .i64 id,.bool pass,.int .i64 num] 140)).drew (below_new_drew _ _)
  have B0:=hU.box.mk (.cells #[.int .i64 kind,.int .i64 lane,.slice ea en ec,.int .i64 id,.bool pass,.int .i64 num] 140)
  have R0:=hU.run.mk (.cells #[.int .i64 kind,.int .i64 lane,.slice ea en ec,.int .i64 id,.bool pass,.int .i64 num] 140)
  have X0:=Bx.new w #[.int .i64 kind,.int .i64 lane,.slice ea en ec,.int .i64 id,.bool pass,.int .i64 num] 140
  have HB0:Hid (Below w.heap.size w (w.alloc (.cells #[.int .i64 kind,.int .i64 lane,.slice ea en ec,.int .i64 id,.bool pass,.int .i64 num] 140))):=below_new _ _
  have hk':(k==0)=false:=by simpa using hk
  clear hC hU
  go_enter func73,ntmps73
  go_upto_region 1 with fail
  generalize w.alloc (.cells #[.int .i64 kind,.int .i64 lane,.slice ea en ec,.int .i64 id,.bool pass,.int .i64 num] 140)=w0 at *
  have c9:w0.cell? ⟨xb,9,none⟩=some (.pointer (some ⟨rb,0,none⟩)):=B0.cell (i:=9) rfl
  have r0:w0.cell? ⟨rb,0,none⟩=some (.pointer (some ⟨yb,0,none⟩)):=R0.cell (i:=0) rfl
  have x0:w0.cell? ⟨w.heap.size,0,none⟩=some (.int .i64 kind):=X0.cell (i:=0) rfl
  have x1:w0.cell? ⟨w.heap.size,1,none⟩=some (.int .i64 lane):=X0.cell (i:=1) rfl
  have x2:w0.cell? ⟨w.heap.size,2,none⟩=some (.slice ea en ec):=X0.cell (i:=2) rfl
  have x3:w0.cell? ⟨w.heap.size,3,none⟩=some (.int .i64 id):=X0.cell (i:=3) rfl
  have x4:w0.cell? ⟨w.heap.size,4,none⟩=some (.bool pass):=X0.cell (i:=4) rfl
  have x5:w0.cell? ⟨w.heap.size,5,none⟩=some (.int .i64 num):=X0.cell (i:=5) rfl
  clear B0 R0 X0
  go_upto_region 3 with fail
  go_region_held_law (λw'=>w'.cell? ⟨xb,9,none⟩=some (.pointer (some ⟨rb,0,none⟩))/\w'.cell? ⟨rb,0,none⟩=some (.pointer (some ⟨yb,0,none⟩))/\w'.cell? ⟨w.heap.size,0,none⟩=some (.int .i64 kind)/\w'.cell? ⟨w.heap.size,1,none⟩=some (.int .i64 lane)/\w'.cell? ⟨w.heap.size,2,none⟩=some (.slice ea en ec)/\w'.cell? ⟨w.heap.size,3,none⟩=some (.int .i64 id)/\w'.cell? ⟨w.heap.size,4,none⟩=some (.bool pass)/\w'.cell? ⟨w.heap.size,5,none⟩=some (.int .i64 num)) (go_keep) ((go_at_call 110;refine hC1.mono ?_;rintro e w2 ⟨rfl,hb2⟩;have c92:=jcell_after hb2 c9;have r02:=jcell_after hb2 r0;have x02:=jcell_after hb2 x0;have x12:=jcell_after hb2 x1;have x22:=jcell_after hb2 x2;have x32:=jcell_after hb2 x3;have x42:=jcell_after hb2 x4;have x52:=jcell_after hb2 x5;have HB2:Hid (Below w0.drew.heap.size w0.drew w2):=hb2;clear hb2))
  all_goals
    go_wp2_with fail
    go_ret
    exact⟨rfl,HB0.out.trans ⟨HB2.out.os,HB2.out.tape,HB2.out.output,HB2.out.size,λk hk=>HB2.out.block k (Nat.lt_of_lt_of_le hk HB0.out.size)⟩⟩
theorem below_trans {w w1 w2:World}(h:Below w.heap.size w w1)(h2:Below w1.heap.size w1 w2):Below w.heap.size w w2:=h.trans (h2.mono h.size)
theorem up_later {w w':World}{Y:Nat->Prop}{xb mb n0 rb yb:Nat}{c:Cfg}{s:Ts}{L:List UInt8}{br:Bool}{keep:Int}{lv:Value}(h:UpIs w Y xb mb n0 rb yb c s L br keep lv)(hb:Below w.heap.size w w'):UpIs w' Y xb mb n0 rb yb c s L br keep lv:=
  ⟨h.box.later hb,h.run.later hb,h.log.later hb,h.yard.later hb,h.nx,h.nr,h.nl,λk hk=>Nat.lt_of_lt_of_le (h.yl k hk) hb.size,h.fm.kept (hb.block _ h.fm.lt)⟩
theorem up_apart {w:World}{Y:Nat->Prop}{xb mb n0 rb yb:Nat}{c:Cfg}{s:Ts}{L:List UInt8}{br:Bool}{keep:Int}{lv:Value}(h:UpIs w Y xb mb n0 rb yb c s L br keep lv):rb≠xb/\(∀g,lv.ownBlock=some g->g≠xb/\g≠rb):=
  ⟨h.run.ne h.box (by decide),λg hg=>⟨λe=>h.log.ne h.box (by decide) (by rw[hg,e]),λe=>h.log.ne h.run (by decide) (by rw[hg,e])⟩⟩
theorem only_cell {w w':World}{S:Nat->Prop}(h:Only w w' S){b o:Nat}{v:Value}(hn:¬S b)(hc:w.cell? ⟨b,o,none⟩=some v):w'.cell? ⟨b,o,none⟩=some v:=
  (World.cell?_of_block (w:=w) (h.block b (jcell_lt hc) hn)).trans hc
def Upto (S:Nat->Prop)(w w':World):Nat->Prop:=λk=>S k\/(w.heap.size<=k/\k<w'.heap.size)
theorem In.tight {w:World}{S:Nat->Prop}{v:Value}(h:In S v){e:TypeId}{size n:Nat}{xs:List Value}(hs:Sl w e size v n xs):In (λk=>S k/\k<w.heap.size) v:=λg hg=>⟨h g hg,hs.lt hg⟩
theorem YardAt.tight {w:World}{S:Nat->Prop}{yb mb n0:Nat}{c:Cfg}{s:Ts}(h:YardAt w S yb mb n0 c s):YardAt w (λk=>S k/\k<w.heap.size) yb mb n0 c s:=by
  obtain⟨q,sb,qv,ov,xt,h,hx⟩:=h
  obtain⟨tl,zs,hr⟩:=h.rest
  refine⟨q,sb,qv,ov,xt,⟨h.qs,h.box,⟨h.que.row,h.que.eds,h.que.fq.tight h.que.row,λy hy=>(h.que.fe y hy).tight (h.que.eds y hy)⟩,h.sub,⟨h.outs.row,h.outs.own.tight h.outs.row⟩,⟨h.fy,h.box.lt⟩,⟨h.fs,h.sub.lt⟩,⟨tl,zs,λe=>hr.nm e.1,hr.ml,hr.tip.imp (λe=>e) λe=>⟨e,hr.map.lt⟩,hr.map,⟨hr.main.fst,hr.main.row,hr.main.own.tight hr.main.row,λy hy=>⟨(hr.main.ids y hy).1,(hr.main.ids y hy).2.tight (hr.main.ids y hy).1⟩⟩,hr.train.snd,hr.train.row,hr.train.own.tight hr.train.row,hr.train.nd,λz hz=>?_⟩,h.nt⟩,hx⟩
  obtain⟨cv,jv,cl,hz⟩:=hr.train.segs z hz
  refine⟨cv,jv,cl,hz.box,⟨hz.chs.fst,hz.chs.row,hz.chs.own.tight hz.chs.row,λy hy=>⟨(hz.chs.eds y hy).1,(hz.chs.eds y hy).2.tight (hz.chs.eds y hy).1⟩⟩,?_,⟨hz.own,hz.box.lt⟩⟩
  have hj:=hz.job
  revert hj
  cases z.2.job with
  |none=>exact λh=>h
  |some j=>
    rintro⟨b,tv,fl,e,hb,hs,ht,hl,k1,k2⟩
    exact⟨b,tv,fl,e,hb,hs,ht,hl,⟨k1,hb.lt⟩,k2.tight hs⟩
structure Acted (w w':World)(Y:Nat->Prop)(xb mb n0 rb yb:Nat)(c:Cfg)(s:Ts)(L:List UInt8)(keep:Int)(lv:Value):Prop where
  up:∃Y' lv',UpIs w' Y' xb mb n0 rb yb c s L false keep lv'/\(∀k,Y' k->Y k\/w.heap.size<=k)/\(lv'.ownBlock=lv.ownBlock\/∃g,lv'.ownBlock=some g/\w.heap.size<=g)
  only:Only w w' (λk=>Y k\/k=xb\/lv.ownBlock=some k)
theorem mAct_ok (Y:Nat->Prop)(xb mb n0 rb yb:Nat)(c:Cfg)(s s':Ts)(L l:List UInt8)(keep:Int)(lv:Value)(kind lane id num:Int)(pass:Bool)(ea:Option Addr)(en ec:Nat)(w:World)(hU:UpIs w Y xb mb n0 rb yb c s L false keep lv)(hL:L.length<1099511627776)(hl:l.length<1099511627776)(hC:∀W,Below w.heap.size w W->Calls prog 110 #[.pointer (some ⟨yb,0,none⟩),.agg #[.int .i64 kind,.int .i64 lane,.slice ea en ec,.int .i64 id,.bool pass,.int .i64 num]] W λe W'=>e=.returned (.int .i64 0)/\Below W.heap.size W W')(hY:∀W,Below w.heap.size w W->Calls prog 112 #[.agg #[.int .i64 kind,.int .i64 lane,.slice ea en ec,.int .i64 id,.bool pass,.int .i64 num]] W λe W'=>∃v',e=.returned v'/\Fresh W W' v' l)(hD:∀W,Only w W (λk=>k=xb\/lv.ownBlock=some k)->YardAt W Y yb mb n0 c s->Calls prog 76 #[.pointer (some ⟨yb,0,none⟩),.agg #[.int .i64 kind,.int .i64 lane,.slice ea en ec,.int .i64 id,.bool pass,.int .i64 num]] W λe W'=>e=.returned (.tuple #[])/\YardAt W' (Plus Y W) yb mb n0 c s'/\Only W W' Y):
    Calls prog 73 #[.pointer (some ⟨xb,0,none⟩),.agg #[.int .i64 kind,.int .i64 lane,.slice ea en ec,.int .i64 id,.bool pass,.int .i64 num]] w λe w'=>e=.returned (.int .i64 0)/\Acted w w' Y xb mb n0 rb yb c s' (L++l) keep lv:=by
  have hC1:=hC (w.alloc (.cells #[.int .i64 kind,.int .i64 lane,.slice ea en ec,.int .i64 id,.bool pass,.int .i64 num] 140)).drew (below_new_drew _ _)
  have X0:=Bx.new w #[.int .i64 kind,.int .i64 lane,.slice ea en ec,.int .i64 id,.bool pass,.int .i64 num] 140
  have HB0:Hid (Below w.heap.size w (w.alloc (.cells #[.int .i64 kind,.int .i64 lane,.slice ea en ec,.int .i64 id,.bool pass,.int .i64 num] 140))):=below_new _ _
  have HU:Hid (UpIs w Y xb mb n0 rb yb c s L false keep lv):=hU
  have hU0:UpIs (w.alloc (.cells #[.int .i64 kind,.int .i64 lane,.slice ea en ec,.int .i64 id,.bool pass,.int .i64 num] 140)) Y xb mb n0 rb yb c s L false keep lv:=up_later hU (below_new _ _)
  have hYW:Hid (∀W,Below w.heap.size w W->Calls prog 112 #[.agg #[.int .i64 kind,.int .i64 lane,.slice ea en ec,.int .i64 id,.bool pass,.int .i64 num]] W λe W'=>∃v',e=.returned v'/\Fresh W W' v' l):=hY
  have hDW:Hid (∀W,Only w W (λk=>k=xb\/lv.ownBlock=some k)->YardAt W Y yb mb n0 c s->Calls prog 76 #[.pointer (some ⟨yb,0,none⟩),.agg #[.int .i64 kind,.int .i64 lane,.slice ea en ec,.int .i64 id,.bool pass,.int .i64 num]] W λe W'=>e=.returned (.tuple #[])/\YardAt W' (Plus Y W) yb mb n0 c s'/\Only W W' Y):=hD
  clear hC hU hY hD
  go_enter func73,ntmps73
  go_upto_region 1 with fail
  generalize w.alloc (.cells #[.int .i64 kind,.int .i64 lane,.slice ea en ec,.int .i64 id,.bool pass,.int .i64 num] 140)=w0 at *
  have c9:w0.cell? ⟨xb,9,none⟩=some (.pointer (some ⟨rb,0,none⟩)):=hU0.box.cell (i:=9) rfl
  have r0:w0.cell? ⟨rb,0,none⟩=some (.pointer (some ⟨yb,0,none⟩)):=hU0.run.cell (i:=0) rfl
  have x0:w0.cell? ⟨w.heap.size,0,none⟩=some (.int .i64 kind):=X0.cell (i:=0) rfl
  have x1:w0.cell? ⟨w.heap.size,1,none⟩=some (.int .i64 lane):=X0.cell (i:=1) rfl
  have x2:w0.cell? ⟨w.heap.size,2,none⟩=some (.slice ea en ec):=X0.cell (i:=2) rfl
  have x3:w0.cell? ⟨w.heap.size,3,none⟩=some (.int .i64 id):=X0.cell (i:=3) rfl
  have x4:w0.cell? ⟨w.heap.size,4,none⟩=some (.bool pass):=X0.cell (i:=4) rfl
  have x5:w0.cell? ⟨w.heap.size,5,none⟩=some (.int .i64 num):=X0.cell (i:=5) rfl
  have HX0:Hid (Bx w0 w.heap.size 140 #[.int .i64 kind,.int .i64 lane,.slice ea en ec,.int .i64 id,.bool pass,.int .i64 num]):=X0
  clear X0 hU0
  go_upto_region 3 with fail
  go_cut [5] from 6 (λt wz=>t=.int .i64 0/\Below w0.heap.size w0 wz)
  case first=>
    go_region_held_law (λw'=>w'.cell? ⟨xb,9,none⟩=some (.pointer (some ⟨rb,0,none⟩))/\w'.cell? ⟨rb,0,none⟩=some (.pointer (some ⟨yb,0,none⟩))/\w'.cell? ⟨w.heap.size,0,none⟩=some (.int .i64 kind)/\w'.cell? ⟨w.heap.size,1,none⟩=some (.int .i64 lane)/\w'.cell? ⟨w.heap.size,2,none⟩=some (.slice ea en ec)/\w'.cell? ⟨w.heap.size,3,none⟩=some (.int .i64 id)/\w'.cell? ⟨w.heap.size,4,none⟩=some (.bool pass)/\w'.cell? ⟨w.heap.size,5,none⟩=some (.int .i64 num)) (go_keep) ((go_at_call 110;refine hC1.mono ?_;rintro e w2 ⟨rfl,hb2⟩;have c92:=jcell_after hb2 c9;have r02:=jcell_after hb2 r0;have x02:=jcell_after hb2 x0;have x12:=jcell_after hb2 x1;have x22:=jcell_after hb2 x2;have x32:=jcell_after hb2 x3;have x42:=jcell_after hb2 x4;have x52:=jcell_after hb2 x5;have HB2:Hid (Below w0.drew.heap.size w0.drew w2):=hb2;clear hb2))
    all_goals
      go_wp2_with fail
      go_meet
      case rel=>exact⟨rfl,HB2.out.os,HB2.out.tape,HB2.out.output,HB2.out.size,HB2.out.block⟩
  case rest=>
    obtain⟨rfl,hbz⟩:=hcut
    rename World=>wz
    have HBZ:Hid (Below w.heap.size w wz):=below_trans HB0.out hbz
    have z0:=jcell_after hbz x0
    have z1:=jcell_after hbz x1
    have z2:=jcell_after hbz x2
    have z3:=jcell_after hbz x3
    have z4:=jcell_after hbz x4
    have z5:=jcell_after hbz x5
    have hYz:=hYW.out wz HBZ.out
    have HUz:Hid (UpIs wz Y xb mb n0 rb yb c s L false keep lv):=up_later HU.out HBZ.out
    have HXz:Hid (Bx wz w.heap.size 140 #[.int .i64 kind,.int .i64 lane,.slice ea en ec,.int .i64 id,.bool pass,.int .i64 num]):=HX0.out.later hbz
    clear c9 r0 x0 x1 x2 x3 x4 x5 hbz hC1 HX0 HB0 hYW
    go_upto_region 7 with fail
    go_fit hYz
    rintro e w3 ⟨v3,rfl,hF⟩
    obtain⟨va,vc,rfl⟩:=row_form hF.1
    have hUz3:=up_later HUz.out hF.2
    have hWr:=mWrite xb mb rb yb c keep lv (.slice va l.length vc) L l w3 hUz3.box hUz3.run hUz3.log (Sl.of_row hF.1) hL hl
    have HB3:Hid (Below w.heap.size w w3):=below_trans HBZ.out hF.2
    have HX3:Hid (Bx w3 w.heap.size 140 #[.int .i64 kind,.int .i64 lane,.slice ea en ec,.int .i64 id,.bool pass,.int .i64 num]):=HXz.out.later hF.2
    have HU3:Hid (UpIs w3 Y xb mb n0 rb yb c s L false keep lv):=hUz3
    clear hF hUz3 hYz HUz HXz z0 z1 z2 z3 z4 z5
    go_upto_region 7 with fail
    go_fit hWr
    rintro e w4 ⟨rfl,lv',hW4⟩
    have hxw:xb<w.heap.size:=HU.out.box.lt
    have hO4:Only w w4 (λk=>k=xb\/lv.ownBlock=some k):=(Only.of_below HB3.out).trans hW4.only λk hk=>.inl hk
    have hX4:Bx w4 w.heap.size 140 #[.int .i64 kind,.int .i64 lane,.slice ea en ec,.int .i64 id,.bool pass,.int .i64 num]:=HX3.out.kept hW4.only (λe=>by
      rcases e with e|e
      · omega
      · have:=HU.out.log.lt e;omega)
    have hap:=up_apart HU.out
    have hR4:Bx w4 rb 137 (runCells yb false keep):=HU3.out.run.kept hW4.only (λe=>by
      rcases e with e|e
      · exact hap.1 e
      · exact(hap.2 rb e).2 rfl)
    have hY4:YardAt w4 Y yb mb n0 c s:=HU.out.yard.kept hO4.size λk hk hS=>hO4.block k hk (λe=>by
      rcases hS with hS|rfl
      · rcases e with e|e
        · subst e;exact HU.out.nx hS
        · exact HU.out.nl k e hS
      · rcases e with e|e
        · exact HU.out.apart.1 e
        · exact HU.out.apart.2.2.1 e)
    have hD4:=hDW.out w4.drew ⟨hO4.os,hO4.tape,hO4.output,hO4.size,hO4.block⟩ (hY4.later ⟨rfl,rfl,rfl,Nat.le_refl _,λ_ _=>rfl⟩)
    have c9:w4.cell? ⟨xb,9,none⟩=some (.pointer (some ⟨rb,0,none⟩)):=hW4.box.cell (i:=9) rfl
    have r0:w4.cell? ⟨rb,0,none⟩=some (.pointer (some ⟨yb,0,none⟩)):=hR4.cell (i:=0) rfl
    have yx0:w4.cell? ⟨w.heap.size,0,none⟩=some (.int .i64 kind):=hX4.cell (i:=0) rfl
    have yx1:w4.cell? ⟨w.heap.size,1,none⟩=some (.int .i64 lane):=hX4.cell (i:=1) rfl
    have yx2:w4.cell? ⟨w.heap.size,2,none⟩=some (.slice ea en ec):=hX4.cell (i:=2) rfl
    have yx3:w4.cell? ⟨w.heap.size,3,none⟩=some (.int .i64 id):=hX4.cell (i:=3) rfl
    have yx4:w4.cell? ⟨w.heap.size,4,none⟩=some (.bool pass):=hX4.cell (i:=4) rfl
    have yx5:w4.cell? ⟨w.heap.size,5,none⟩=some (.int .i64 num):=hX4.cell (i:=5) rfl
    have HW4:Hid (Wrote w3 w4 xb mb c lv (.pointer (some ⟨rb,0,none⟩)) (L++l) lv'):=hW4
    have HO4:Hid (Only w w4 (λk=>k=xb\/lv.ownBlock=some k)):=hO4
    have HR4:Hid (Bx w4 rb 137 (runCells yb false keep)):=hR4
    clear hW4 hO4 hX4 hR4 hY4 hWr hap HX3 HU3 hDW HBZ
    have nY:Hid (¬Y w.heap.size):=λh=>Nat.lt_irrefl _ (HU.out.yl _ h)
    have nX:Hid (¬Y xb):=HU.out.nx
    have nR:Hid (¬Y rb):=HU.out.nr
    go_upto_region 9 with fail
    go_region_held_law (λw'=>w'.cell? ⟨xb,9,none⟩=some (.pointer (some ⟨rb,0,none⟩))/\w'.cell? ⟨rb,0,none⟩=some (.pointer (some ⟨yb,0,none⟩))/\w'.cell? ⟨w.heap.size,0,none⟩=some (.int .i64 kind)/\w'.cell? ⟨w.heap.size,1,none⟩=some (.int .i64 lane)/\w'.cell? ⟨w.heap.size,2,none⟩=some (.slice ea en ec)/\w'.cell? ⟨w.heap.size,3,none⟩=some (.int .i64 id)/\w'.cell? ⟨w.heap.size,4,none⟩=some (.bool pass)/\w'.cell? ⟨w.heap.size,5,none⟩=some (.int .i64 num)) (go_keep) ((go_at_call 76;refine hD4.mono ?_;rintro e w5 ⟨rfl,hY5,hO5⟩;have c95:=only_cell hO5 nX.out c9;have r05:=only_cell hO5 nR.out r0;have v0:=only_cell hO5 nY.out yx0;have v1:=only_cell hO5 nY.out yx1;have v2:=only_cell hO5 nY.out yx2;have v3:=only_cell hO5 nY.out yx3;have v4:=only_cell hO5 nY.out yx4;have v5:=only_cell hO5 nY.out yx5;have HY5:Hid (YardAt w5 (Plus Y w4.drew) yb mb n0 c s'):=hY5;have HO5:Hid (Only w4.drew w5 Y):=hO5;clear hY5 hO5))
    all_goals
      go_wp2_with fail
      go_ret
      have hU:=HU.out
      have h45:w4.heap.size<=w5.heap.size:=HO5.out.size
      have h04:w.heap.size<=w4.heap.size:=HO4.out.size
      have hyt:YardAt w5 (Upto Y w4 w5) yb mb n0 c s':=(HY5.out.tight).mono (λk hk=>by
        rcases hk with ⟨hk|hk,hlt⟩
        · exact .inl hk
        · exact .inr ⟨hk,hlt⟩) (λhk=>by
        have:=HU.out.fm.lt
        rcases hk with hk|hk
        · exact HU.out.apart.2.2.2 hk
        · omega)
      have O45:Only w4 w5 Y:=HO5.out.drew
      have nl':∀g,lv'.ownBlock=some g->¬Y g:=λg hg=>by
        rcases HW4.out.blk with e|⟨g',e,hg'⟩
        · rw[e] at hg;exact hU.nl g hg
        · rw[e] at hg;cases hg
          intro h;have:=hU.yl _ h;have:=HB3.out.size;omega
      have lf:lv'.ownBlock=lv.ownBlock\/∃g,lv'.ownBlock=some g/\w3.heap.size<=g/\g<w4.heap.size:=HW4.out.blk.imp (λh=>h) (λ⟨g,h1,h2⟩=>⟨g,h1,h2,HW4.out.log.lt h1⟩)
      have hrl:rb<w.heap.size:=hU.run.lt
      have up4:∀k,k<w4.heap.size->¬Y k->¬Upto Y w4 w5 k:=λk hk h1 h2=>by
        rcases h2 with h2|h2
        · exact h1 h2
        · omega
      refine⟨rfl,⟨Upto Y w4 w5,lv',⟨HW4.out.box.kept O45 nX.out,HR4.out.kept O45 nR.out,HW4.out.log.kept λg hg=>O45.block g (HW4.out.log.lt hg) (nl' g hg),hyt,?_,?_,?_,?_,?_⟩,?_,?_⟩,?_⟩
      · exact up4 xb (by omega) nX.out
      · exact up4 rb (by omega) nR.out
      · exact λg hg=>up4 g (HW4.out.log.lt hg) (nl' g hg)
      · rintro k (hk|hk)
        · have:=hU.yl k hk;omega
        · exact hk.2
      · refine hU.fm.kept ((O45.block mb (Nat.lt_of_lt_of_le hU.fm.lt h04) hU.apart.2.2.2).trans (HO4.out.block mb hU.fm.lt λe=>?_))
        rcases e with e|e
        · exact hU.apart.1 e
        · exact hU.apart.2.2.1 e
      · rintro k (hk|hk)
        · exact .inl hk
        · exact .inr (by omega)
      · exact lf.imp (λh=>h) (λ⟨g,h1,h2,_⟩=>⟨g,h1,Nat.le_trans HB3.out.size h2⟩)
      · exact(HO4.out.mono λk hk=>.inr hk).trans O45 λk hk=>.inl (.inl hk)
structure DownIs (w:World)(xb mb:Nat)(c:Cfg)(L:List UInt8)(lv:Value):Prop where
  box:Bx w xb 135 (machCells c mb lv (.pointer none))
  log:Sl w 5 1 lv L.length (bc L)
structure Fell (w w':World)(xb mb:Nat)(c:Cfg)(L:List UInt8)(lv:Value):Prop where
  down:∃lv',DownIs w' xb mb c L lv'/\(lv'.ownBlock=lv.ownBlock\/∃g,lv'.ownBlock=some g/\w.heap.size<=g)
  only:Only w w' (λk=>k=xb\/lv.ownBlock=some k)
theorem mAct_br (Y:Nat->Prop)(xb mb n0 rb yb:Nat)(c:Cfg)(s:Ts)(L l:List UInt8)(keep:Int)(lv:Value)(kind lane id num:Int)(pass:Bool)(ea:Option Addr)(en ec:Nat)(w:World)(hU:UpIs w Y xb mb n0 rb yb c s L true keep lv)(hL:L.length<1099511627776)(hl:l.length<1099511627776)(hC:∀W,Below w.heap.size w W->Calls prog 110 #[.pointer (some ⟨yb,0,none⟩),.agg #[.int .i64 kind,.int .i64 lane,.slice ea en ec,.int .i64 id,.bool pass,.int .i64 num]] W λe W'=>e=.returned (.int .i64 0)/\Below W.heap.size W W')(hY:∀W,Below w.heap.size w W->Calls prog 112 #[.agg #[.int .i64 kind,.int .i64 lane,.slice ea en ec,.int .i64 id,.bool pass,.int .i64 num]] W λe W'=>∃v',e=.returned v'/\Fresh W W' v' l)(k:Nat)(hk:(k:Int)=max 0 (min keep l.length)):
    Calls prog 73 #[.pointer (some ⟨xb,0,none⟩),.agg #[.int .i64 kind,.int .i64 lane,.slice ea en ec,.int .i64 id,.bool pass,.int .i64 num]] w λe w'=>e=.returned (.int .i64 8)/\Fell w w' xb mb c (L++l.take k) lv:=by
  have hC1:=hC (w.alloc (.cells #[.int .i64 kind,.int .i64 lane,.slice ea en ec,.int .i64 id,.bool pass,.int .i64 num] 140)).drew (below_new_drew _ _)
  have X0:=Bx.new w #[.int .i64 kind,.int .i64 lane,.slice ea en ec,.int .i64 id,.bool pass,.int .i64 num] 140
  have HB0:Hid (Below w.heap.size w (w.alloc (.cells #[.int .i64 kind,.int .i64 lane,.slice ea en ec,.int .i64 id,.bool pass,.int .i64 num] 140))):=below_new _ _
  have HU:Hid (UpIs w Y xb mb n0 rb yb c s L true keep lv):=hU
  have hU0:UpIs (w.alloc (.cells #[.int .i64 kind,.int .i64 lane,.slice ea en ec,.int .i64 id,.bool pass,.int .i64 num] 140)) Y xb mb n0 rb yb c s L true keep lv:=up_later hU (below_new _ _)
  have hYW:Hid (∀W,Below w.heap.size w W->Calls prog 112 #[.agg #[.int .i64 kind,.int .i64 lane,.slice ea en ec,.int .i64 id,.bool pass,.int .i64 num]] W λe W'=>∃v',e=.returned v'/\Fresh W W' v' l):=hY
  have HK:Hid ((k:Int)=max 0 (min keep l.length)):=hk
  clear hC hU hY hk
  go_enter func73,ntmps73
  go_upto_region 1 with fail
  generalize w.alloc (.cells #[.int .i64 kind,.int .i64 lane,.slice ea en ec,.int .i64 id,.bool pass,.int .i64 num] 140)=w0 at *
  have c9:w0.cell? ⟨xb,9,none⟩=some (.pointer (some ⟨rb,0,none⟩)):=hU0.box.cell (i:=9) rfl
  have r0:w0.cell? ⟨rb,0,none⟩=some (.pointer (some ⟨yb,0,none⟩)):=hU0.run.cell (i:=0) rfl
  have x0:w0.cell? ⟨w.heap.size,0,none⟩=some (.int .i64 kind):=X0.cell (i:=0) rfl
  have x1:w0.cell? ⟨w.heap.size,1,none⟩=some (.int .i64 lane):=X0.cell (i:=1) rfl
  have x2:w0.cell? ⟨w.heap.size,2,none⟩=some (.slice ea en ec):=X0.cell (i:=2) rfl
  have x3:w0.cell? ⟨w.heap.size,3,none⟩=some (.int .i64 id):=X0.cell (i:=3) rfl
  have x4:w0.cell? ⟨w.heap.size,4,none⟩=some (.bool pass):=X0.cell (i:=4) rfl
  have x5:w0.cell? ⟨w.heap.size,5,none⟩=some (.int .i64 num):=X0.cell (i:=5) rfl
  have HX0:Hid (Bx w0 w.heap.size 140 #[.int .i64 kind,.int .i64 lane,.slice ea en ec,.int .i64 id,.bool pass,.int .i64 num]):=X0
  clear X0 hU0
  go_upto_region 3 with fail
  go_cut [5] from 6 (λt wz=>t=.int .i64 0/\Below w0.heap.size w0 wz)
  case first=>
    go_region_held_law (λw'=>w'.cell? ⟨xb,9,none⟩=some (.pointer (some ⟨rb,0,none⟩))/\w'.cell? ⟨rb,0,none⟩=some (.pointer (some ⟨yb,0,none⟩))/\w'.cell? ⟨w.heap.size,0,none⟩=some (.int .i64 kind)/\w'.cell? ⟨w.heap.size,1,none⟩=some (.int .i64 lane)/\w'.cell? ⟨w.heap.size,2,none⟩=some (.slice ea en ec)/\w'.cell? ⟨w.heap.size,3,none⟩=some (.int .i64 id)/\w'.cell? ⟨w.heap.size,4,none⟩=some (.bool pass)/\w'.cell? ⟨w.heap.size,5,none⟩=some (.int .i64 num)) (go_keep) ((go_at_call 110;refine hC1.mono ?_;rintro e w2 ⟨rfl,hb2⟩;have c92:=jcell_after hb2 c9;have r02:=jcell_after hb2 r0;have x02:=jcell_after hb2 x0;have x12:=jcell_after hb2 x1;have x22:=jcell_after hb2 x2;have x32:=jcell_after hb2 x3;have x42:=jcell_after hb2 x4;have x52:=jcell_after hb2 x5;have HB2:Hid (Below w0.drew.heap.size w0.drew w2):=hb2;clear hb2))
    all_goals
      go_wp2_with fail
      go_meet
      case rel=>exact⟨rfl,HB2.out.os,HB2.out.tape,HB2.out.output,HB2.out.size,HB2.out.block⟩
  case rest=>
    obtain⟨rfl,hbz⟩:=hcut
    rename World=>wz
    have HBZ:Hid (Below w.heap.size w wz):=below_trans HB0.out hbz
    have z0:=jcell_after hbz x0
    have z1:=jcell_after hbz x1
    have z2:=jcell_after hbz x2
    have z3:=jcell_after hbz x3
    have z4:=jcell_after hbz x4
    have z5:=jcell_after hbz x5
    have hYz:=hYW.out wz HBZ.out
    have HUz:Hid (UpIs wz Y xb mb n0 rb yb c s L true keep lv):=up_later HU.out HBZ.out
    have HXz:Hid (Bx wz w.heap.size 140 #[.int .i64 kind,.int .i64 lane,.slice ea en ec,.int .i64 id,.bool pass,.int .i64 num]):=HX0.out.later hbz
    clear c9 r0 x0 x1 x2 x3 x4 x5 hbz hC1 HX0 HB0 hYW
    go_upto_region 7 with fail
    go_fit hYz
    rintro e w3 ⟨v3,rfl,hF⟩
    obtain⟨va,vc,rfl⟩:=row_form hF.1
    have hUz3:=up_later HUz.out hF.2
    have hWr:=mWriteBr xb mb rb yb c keep lv (.slice va l.length vc) L l w3 hUz3.box hUz3.run hUz3.log (Sl.of_row hF.1) hL hl k HK.out
    have HB3:Hid (Below w.heap.size w w3):=below_trans HBZ.out hF.2
    clear hF hUz3 hYz HUz HXz z0 z1 z2 z3 z4 z5
    go_upto_region 7 with fail
    go_fit hWr
    rintro e w4 ⟨rfl,lv',hW4⟩
    have c9:w4.cell? ⟨xb,9,none⟩=some (.pointer none):=hW4.box.cell (i:=9) rfl
    have HW4:Hid (Wrote w3 w4 xb mb c lv (.pointer none) (L++l.take k) lv'):=hW4
    clear hW4 hWr HBZ
    go_wp2_with fail
    go_ret
    exact⟨rfl,⟨lv',⟨HW4.out.box,HW4.out.log⟩,HW4.out.blk.imp (λh=>h) (λ⟨g,h1,h2⟩=>⟨g,h1,Nat.le_trans HB3.out.size h2⟩)⟩,(Only.of_below HB3.out).trans HW4.out.only λk hk=>.inl hk⟩
theorem Bx.drewd {w:World}{b:Nat}{t:TypeId}{cs:Array Value}(h:Bx w b t cs):Bx w.drew b t cs:=h
theorem grown_drewd {w w':World}{row:Option Nat}(h:w.grownBy w' row):w.grownBy w'.drew row:=⟨h.os,h.tape,h.output,h.size,h.block⟩
theorem mAct_down (xb mb:Nat)(c:Cfg)(L:List UInt8)(lv:Value)(kind lane id num:Int)(pass:Bool)(ea:Option Addr)(en ec:Nat)(w:World)(hD:DownIs w xb mb c L lv):
    Calls prog 73 #[.pointer (some ⟨xb,0,none⟩),.agg #[.int .i64 kind,.int .i64 lane,.slice ea en ec,.int .i64 id,.bool pass,.int .i64 num]] w λe w'=>e=.returned (.int .i64 8)/\Below w.heap.size w w':=by
  have c9:(w.alloc (.cells #[.int .i64 kind,.int .i64 lane,.slice ea en ec,.int .i64 id,.bool pass,.int .i64 num] 140)).cell? ⟨xb,9,none⟩=some (.pointer none):=(hD.box.mk _).cell (i:=9) rfl
  clear hD
  go_enter func73,ntmps73
  go_wp2_with fail
  go_ret
  exact⟨rfl,below_new _ _⟩
theorem mCrash_down (xb mb:Nat)(c:Cfg)(L:List UInt8)(lv:Value)(w:World)(hD:DownIs w xb mb c L lv):
    Calls prog 50 #[.pointer (some ⟨xb,0,none⟩)] w λe w'=>e=.returned (.int .i64 8)/\w'=w:=by
  have c9:w.cell? ⟨xb,9,none⟩=some (.pointer none):=hD.box.cell (i:=9) rfl
  clear hD
  go_enter func50,ntmps50
  go_wp2_with fail
  go_ret
  exact⟨rfl,rfl⟩
theorem mCrash_up (Y:Nat->Prop)(xb mb n0 rb yb:Nat)(c:Cfg)(s:Ts)(L:List UInt8)(br:Bool)(keep:Int)(lv:Value)(w:World)(hU:UpIs w Y xb mb n0 rb yb c s L br keep lv):
    Calls prog 50 #[.pointer (some ⟨xb,0,none⟩)] w λe w'=>e=.returned (.int .i64 0)/\DownIs w' xb mb c L lv/\Only w w' (λk=>k=xb):=by
  have c9:w.cell? ⟨xb,9,none⟩=some (.pointer (some ⟨rb,0,none⟩)):=hU.box.cell (i:=9) rfl
  have f9:=hU.box.fr 9
  have HU:Hid (UpIs w Y xb mb n0 rb yb c s L br keep lv):=hU
  clear hU
  go_enter func50,ntmps50
  go_wp2_with fail
  go_ret
  have h:=HU.out
  exact⟨rfl,⟨h.box.set 9 _,h.log.grown (grown_set _ _ _ _) (λg hg e=>(h.log.ne h.box (by decide)) (by rw[hg];exact e.symm))⟩,(Only.refl w _).set (.inl rfl)⟩
theorem mBreak_down (xb mb:Nat)(c:Cfg)(L:List UInt8)(lv:Value)(k:Int)(w:World)(hD:DownIs w xb mb c L lv):
    Calls prog 29 #[.pointer (some ⟨xb,0,none⟩),.int .i64 k] w λe w'=>e=.returned (.int .i64 8)/\w'=w:=by
  have c9:w.cell? ⟨xb,9,none⟩=some (.pointer none):=hD.box.cell (i:=9) rfl
  clear hD
  go_enter func29,ntmps29
  go_wp2_with fail
  go_ret
  exact⟨rfl,rfl⟩
theorem mBreak_up (Y:Nat->Prop)(xb mb n0 rb yb:Nat)(c:Cfg)(s:Ts)(L:List UInt8)(br:Bool)(keep:Int)(lv:Value)(k:Int)(w:World)(hU:UpIs w Y xb mb n0 rb yb c s L br keep lv):
    Calls prog 29 #[.pointer (some ⟨xb,0,none⟩),.int .i64 k] w λe w'=>e=.returned (.int .i64 0)/\UpIs w' Y xb mb n0 rb yb c s L true k lv/\Only w w' (λj=>j=rb):=by
  have c9:w.cell? ⟨xb,9,none⟩=some (.pointer (some ⟨rb,0,none⟩)):=hU.box.cell (i:=9) rfl
  have r1:w.cell? ⟨rb,1,none⟩=some (.bool br):=hU.run.cell (i:=1) rfl
  have r2:w.cell? ⟨rb,2,none⟩=some (.int .i64 keep):=hU.run.cell (i:=2) rfl
  have f1:=hU.run.fr 1
  have f2:=hU.run.fr 2
  have HU:Hid (UpIs w Y xb mb n0 rb yb c s L br keep lv):=hU
  have hne:rb≠xb:=(up_apart hU).1
  have hne':xb≠rb:=hne.symm
  clear hU
  go_enter func29,ntmps29
  go_upto_region 3 with fail
  go_region_held_law (λw'=>w'.cell? ⟨xb,9,none⟩=some (.pointer (some ⟨rb,0,none⟩))) (go_keep) (fail)
  all_goals
    go_wp2_with fail
    go_ret
    have h:=HU.out
    have hap:=up_apart h
    have key:∀W:World,Bx W rb 137 (runCells yb true k)->w.grownBy W (some rb)->UpIs W Y xb mb n0 rb yb c s L true k lv/\Only w W (λj=>j=rb):=λW hB hG=>
      ⟨⟨h.box.grown hG (by simpa using hne'),hB,h.log.grown hG (λg hg e=>(hap.2 g hg).2 (by injection e with e;exact e.symm)),h.yard.kept hG.size λj hj hY=>hG.block j hj (λe=>by
        injection e with e
        rcases hY with hY|hY
        · exact h.nr (e▸hY)
        · exact h.apart.2.1 (hY.symm.trans e)),h.nx,h.nr,h.nl,λj hj=>Nat.lt_of_lt_of_le (h.yl j hj) hG.size,h.fm.kept (hG.block mb h.fm.lt λe=>h.apart.2.1 (by injection e))⟩,Only.of_grown hG λj e=>by injection e with e;exact e.symm⟩
    first
      |exact⟨rfl,key _ (Bx.drewd ((h.run.set 1 (.bool true)).set 2 (.int .i64 k))) (grown_drewd ((grown_set _ _ _ _).trans (grown_set _ _ _ _)))⟩
      |exact⟨rfl,key _ (Bx.drewd ((h.run.set 2 (.int .i64 k)).set 1 (.bool true))) (grown_drewd ((grown_set _ _ _ _).trans (grown_set _ _ _ _)))⟩
theorem Sl.bv {w:World}{v:Value}{L:List UInt8}(h:Sl w 5 1 v L.length (bc L))(hn:L.length<1099511627776):BV w v L:=by
  rcases h.2 with ⟨rfl,h0⟩|⟨g,off,cap,cur,rfl,hh,hnc,hcm,hf,hr⟩
  · exact .inl ⟨List.eq_nil_of_length_eq_zero h0,rfl⟩
  · refine .inr ⟨g,off,cap,rfl,hnc,⟨by unfold maxLen at hcm;omega,hn⟩,(Array.getElem?_eq_some_iff.1 hh).1,λi hi=>?_⟩
    have:=hr i (.int .u8 L[i].toNat) (by simp[bc,hi])
    simp[World.cell?,hh,this]
theorem mLog (xb:Nat)(cs:Array Value)(L:List UInt8)(lv:Value)(w:World)(hB:Bx w xb 135 cs)(h8:cs[8]? =some lv)(hL:Sl w 5 1 lv L.length (bc L))(hn:L.length<1099511627776):
    Calls prog 28 #[.pointer (some ⟨xb,0,none⟩)] w λe w'=>e=.returned (.string (bs L))/\w'=w:=by
  have hcv:=conv_bv (hL.bv hn)
  have c8:=hB.cell h8
  obtain⟨a,cap,rfl⟩:=hL.form
  clear hB hL
  go_enter func28,ntmps28
  go_wp2
  go_ret
  exact⟨rfl,rfl⟩
theorem mSubmit_of (xb:Nat)(id lane:Int)(ea:Option Addr)(en ec:Nat)(k:Int)(R:World->Prop)(w:World)(h:Calls prog 73 #[.pointer (some ⟨xb,0,none⟩),.agg #[.int .i64 1,.int .i64 lane,.slice ea en ec,.int .i64 id,.bool false,.int .i64 0]] w λe w'=>e=.returned (.int .i64 k)/\R w'):
    Calls prog 31 #[.pointer (some ⟨xb,0,none⟩),.int .i64 id,.int .i64 lane,.slice ea en ec] w λe w'=>e=.returned (.int .i64 k)/\R w':=by
  go_enter func31,ntmps31
  go_wp2_with fail
  go_fit h
  rintro e w' ⟨rfl,hR⟩
  have HR:Hid (R w'):=hR
  clear hR h
  go_wp2_with fail
  go_ret
  exact⟨rfl,HR.out⟩
theorem mCancel_of (xb:Nat)(id:Int)(k:Int)(R:World->Prop)(w:World)(h:Calls prog 73 #[.pointer (some ⟨xb,0,none⟩),.agg #[.int .i64 2,.int .i64 0,.slice none 0 0,.int .i64 id,.bool false,.int .i64 0]] w λe w'=>e=.returned (.int .i64 k)/\R w'):
    Calls prog 40 #[.pointer (some ⟨xb,0,none⟩),.int .i64 id] w λe w'=>e=.returned (.int .i64 k)/\R w':=by
  go_enter func40,ntmps40
  go_wp2_with fail
  go_fit h
  rintro e w' ⟨rfl,hR⟩
  have HR:Hid (R w'):=hR
  clear hR h
  go_wp2_with fail
  go_ret
  exact⟨rfl,HR.out⟩
theorem mAck_of (xb:Nat)(n:Int)(k:Int)(R:World->Prop)(w:World)(h:Calls prog 73 #[.pointer (some ⟨xb,0,none⟩),.agg #[.int .i64 6,.int .i64 0,.slice none 0 0,.int .i64 0,.bool false,.int .i64 n]] w λe w'=>e=.returned (.int .i64 k)/\R w'):
    Calls prog 79 #[.pointer (some ⟨xb,0,none⟩),.int .i64 n] w λe w'=>e=.returned (.int .i64 k)/\R w':=by
  go_enter func79,ntmps79
  go_wp2_with fail
  go_fit h
  rintro e w' ⟨rfl,hR⟩
  have HR:Hid (R w'):=hR
  clear hR h
  go_wp2_with fail
  go_ret
  exact⟨rfl,HR.out⟩
theorem mPoll_down (xb mb:Nat)(c:Cfg)(L:List UInt8)(lv:Value)(w:World)(hD:DownIs w xb mb c L lv):
    Calls prog 77 #[.pointer (some ⟨xb,0,none⟩)] w λe w'=>e=.returned (.tuple #[.agg #[.int .i64 0,.int .i64 0,.int .i64 0],.int .i64 8])/\Below w.heap.size w w':=by
  have c9:w.cell? ⟨xb,9,none⟩=some (.pointer none):=hD.box.cell (i:=9) rfl
  have hxl:=hD.box.lt
  clear hD
  go_enter func77,ntmps77
  go_wp2_with fail
  refine bodyPost_ret (by simp[results,results77,go_sem];rfl) rfl ⟨by rfl,?_⟩
  exact below_new _ _
section
open Go.Maps
theorem makeS (w:World):(Instr.makeMap 194 none).run prog w=.ok (.map (some w.heap.size)) (w.alloc (.map #[] 0)):=by
  simp[Instr.makeMap]
theorem yNew (mb:Nat)(n0:Nat)(g:ByteArray->ByteArray)(c:Cfg)(w:World)(hm:FilesMap w mb n0 g):
    Calls prog 114 #[.agg #[.int .i64 c.lanes,.int .i64 c.age,.int .i64 c.batch,.int .i64 c.window,.int .i64 c.retries,.int .i64 c.deadline,.int .i64 c.queue],.map (some mb)] w λe w'=>(∃yb,e=.returned (.pointer (some ⟨yb,0,none⟩))/\w.heap.size<=yb/\YardAt w' (λk=>w.heap.size<=k/\k<w'.heap.size) yb mb n0 c (Ts.start g))/\Below w.heap.size w w':=by
  have hmk:=makeS
  have HM:Hid (FilesMap w mb n0 g):=hm
  have hml:=hm.lt
  clear hm
  go_enter func114,ntmps114
  go_wp2_with fail
  go_ret
  have e1:(w.alloc (.cells #[.int .i64 c.lanes,.int .i64 c.age,.int .i64 c.batch,.int .i64 c.window,.int .i64 c.retries,.int .i64 c.deadline,.int .i64 c.queue] 23)).heap.size=w.heap.size+1:=by simp
  have e2:((w.alloc (.cells #[.int .i64 c.lanes,.int .i64 c.age,.int .i64 c.batch,.int .i64 c.window,.int .i64 c.retries,.int .i64 c.deadline,.int .i64 c.queue] 23)).alloc (.map #[] 0)).heap.size=w.heap.size+1+1:=by simp
  have S1:=Subm.made (w.alloc (.cells #[.int .i64 c.lanes,.int .i64 c.age,.int .i64 c.batch,.int .i64 c.window,.int .i64 c.retries,.int .i64 c.deadline,.int .i64 c.queue] 23))
  have B2:=Bx.new ((w.alloc (.cells #[.int .i64 c.lanes,.int .i64 c.age,.int .i64 c.batch,.int .i64 c.window,.int .i64 c.retries,.int .i64 c.deadline,.int .i64 c.queue] 23)).alloc (.map #[] 0)) (yardCells c ⟨mb,.slice none 0 0,.slice none 0 0,n0⟩ 0 0 (.slice none 0 0) (w.heap.size+1) 0 (.slice none 0 0)) 201
  rw[e2] at B2
  rw[e1] at S1
  refine⟨⟨_,rfl,by omega,[],w.heap.size+1,.slice none 0 0,.slice none 0 0,⟨mb,.slice none 0 0,.slice none 0 0,n0⟩,⟨List.Perm.refl _,B2,⟨Sl.nil _ _ _,by simp,by simp[In,Value.ownBlock],by simp⟩,S1.later (below_new _ _),⟨Sl.nil _ _ _,by simp[In,Value.ownBlock]⟩,⟨by omega,B2.lt⟩,⟨by omega,(S1.later (below_new _ _)).lt⟩,⟨[],[],λh=>by have:=h.1;omega,?_,.inl rfl,HM.out.same ?_,⟨rfl,Sl.nil _ _ _,by simp[In,Value.ownBlock],by simp⟩,rfl,Sl.nil _ _ _,by simp[In,Value.ownBlock],by simp,by simp⟩,by simp only;omega⟩,by simp⟩,?_⟩
  · simp;omega
  · exact(below_then (below_then (below_new _ _) (below_new _ _)) (below_new _ _)).block mb hml
  exact below_then (below_then (below_new _ _) (below_new _ _)) (below_new _ _)
end
theorem mPoll_none (Y:Nat->Prop)(xb mb n0 rb yb:Nat)(c:Cfg)(s:Ts)(L:List UInt8)(br:Bool)(keep:Int)(lv:Value)(w:World)(hU:UpIs w Y xb mb n0 rb yb c s L br keep lv)(ha:s.acked=s.outs.length):
    Calls prog 77 #[.pointer (some ⟨xb,0,none⟩)] w λe w'=>e=.returned (.tuple #[.agg #[.int .i64 0,.int .i64 0,.int .i64 0],.int .i64 5])/\Below w.heap.size w w':=by
  have hO:=yOldest_none Y yb mb n0 c s (w.alloc (.cells #[.int .i64 0,.int .i64 0,.int .i64 0] 99)) (hU.yard.later (below_new _ _)) ha
  have c9:w.cell? ⟨xb,9,none⟩=some (.pointer (some ⟨rb,0,none⟩)):=hU.box.cell (i:=9) rfl
  have r0:w.cell? ⟨rb,0,none⟩=some (.pointer (some ⟨yb,0,none⟩)):=hU.run.cell (i:=0) rfl
  have hxl:=hU.box.lt
  have hrl:=hU.run.lt
  clear hU
  go_enter func77,ntmps77
  go_wp2_with fail
  go_fit hO
  rintro e w1 ⟨rfl,hb1⟩
  have B1:Bx w1 w.heap.size 99 #[.int .i64 0,.int .i64 0,.int .i64 0]:=(hb1.block _ (by simp)).trans (Bx.new w #[.int .i64 0,.int .i64 0,.int .i64 0] 99)
  have hlt:w.heap.size<w1.heap.size:=B1.lt
  have fr:∀i,w1.frozen? ⟨w.heap.size,i,none⟩=false:=λi=>B1.fr i
  have d0:w1.cell? ⟨w.heap.size,0,none⟩=some (.int .i64 0):=B1.cell (i:=0) rfl
  have d1:w1.cell? ⟨w.heap.size,1,none⟩=some (.int .i64 0):=B1.cell (i:=1) rfl
  have d2:w1.cell? ⟨w.heap.size,2,none⟩=some (.int .i64 0):=B1.cell (i:=2) rfl
  have HB1:Hid (Bx w1 w.heap.size 99 #[.int .i64 0,.int .i64 0,.int .i64 0]):=B1
  have HB:Hid (Below w.heap.size w w1):=(below_new _ _).trans (hb1.mono (by simp))
  clear hb1 hO B1
  go_wp2_with fail
  have BW:=((HB1.out.set 0 (.int .i64 0)).set 1 (.int .i64 0)).set 2 (.int .i64 0)
  simp only[List.setIfInBounds_toArray,List.set_cons_zero,List.set_cons_succ] at BW
  have HW:=below_set (below_set (below_set HB.out (Nat.le_refl _) 0 (.int .i64 0)) (Nat.le_refl _) 1 (.int .i64 0)) (Nat.le_refl _) 2 (.int .i64 0)
  generalize ((w1.setCell ⟨w.heap.size,0,none⟩ (.int .i64 0)).setCell ⟨w.heap.size,1,none⟩ (.int .i64 0)).setCell ⟨w.heap.size,2,none⟩ (.int .i64 0)=W at *
  have BW2:=BW.mk (.cells #[.int .i64 0,.int .i64 0,.int .i64 0] 99)
  have e0:=BW2.c 0 (.int .i64 0)
  have e1:=BW2.c 1 (.int .i64 0)
  have e2:=BW2.c 2 (.int .i64 0)
  have HW2:=HW.trans ((below_new W (.cells #[.int .i64 0,.int .i64 0,.int .i64 0] 99)).mono HW.size)
  exact bodyPost_ret (v:=.tuple #[.agg #[.int .i64 0,.int .i64 0,.int .i64 0],.int .i64 5]) (by simp[results,results77,go_sem,e0,e1,e2]) rfl ⟨rfl,HW2⟩
theorem mPoll_some (Y:Nat->Prop)(xb mb n0 rb yb:Nat)(c:Cfg)(s:Ts)(L:List UInt8)(br:Bool)(keep:Int)(lv:Value)(w:World)(hU:UpIs w Y xb mb n0 rb yb c s L br keep lv)(ha:s.acked<s.outs.length):
    Calls prog 77 #[.pointer (some ⟨xb,0,none⟩)] w λe w'=>e=.returned (.tuple #[.agg #[.int .i64 ((s.acked:Int)+1),.int .i64 (s.outs[s.acked]'ha).1,.int .i64 (s.outs[s.acked]'ha).2],.int .i64 0])/\Below w.heap.size w w':=by
  have hO:=yOldest_some Y yb mb n0 c s (w.alloc (.cells #[.int .i64 0,.int .i64 0,.int .i64 0] 99)) (hU.yard.later (below_new _ _)) ha
  generalize s.outs[s.acked]'ha=o at hO ⊢
  have c9:w.cell? ⟨xb,9,none⟩=some (.pointer (some ⟨rb,0,none⟩)):=hU.box.cell (i:=9) rfl
  have r0:w.cell? ⟨rb,0,none⟩=some (.pointer (some ⟨yb,0,none⟩)):=hU.run.cell (i:=0) rfl
  have hxl:=hU.box.lt
  have hrl:=hU.run.lt
  clear hU
  go_enter func77,ntmps77
  go_wp2_with fail
  go_fit hO
  rintro e w1 ⟨rfl,hb1⟩
  have B1:Bx w1 w.heap.size 99 #[.int .i64 0,.int .i64 0,.int .i64 0]:=(hb1.block _ (by simp)).trans (Bx.new w #[.int .i64 0,.int .i64 0,.int .i64 0] 99)
  have hlt:w.heap.size<w1.heap.size:=B1.lt
  have fr:∀i,w1.frozen? ⟨w.heap.size,i,none⟩=false:=λi=>B1.fr i
  have d0:w1.cell? ⟨w.heap.size,0,none⟩=some (.int .i64 0):=B1.cell (i:=0) rfl
  have d1:w1.cell? ⟨w.heap.size,1,none⟩=some (.int .i64 0):=B1.cell (i:=1) rfl
  have d2:w1.cell? ⟨w.heap.size,2,none⟩=some (.int .i64 0):=B1.cell (i:=2) rfl
  have HB1:Hid (Bx w1 w.heap.size 99 #[.int .i64 0,.int .i64 0,.int .i64 0]):=B1
  have HB:Hid (Below w.heap.size w w1):=(below_new _ _).trans (hb1.mono (by simp))
  clear hb1 hO B1
  go_wp2_with fail
  have BW:=((HB1.out.set 0 (.int .i64 ((s.acked:Int)+1))).set 1 (.int .i64 o.1)).set 2 (.int .i64 o.2)
  simp only[List.setIfInBounds_toArray,List.set_cons_zero,List.set_cons_succ] at BW
  have HW:=below_set (below_set (below_set HB.out (Nat.le_refl _) 0 (.int .i64 ((s.acked:Int)+1))) (Nat.le_refl _) 1 (.int .i64 o.1)) (Nat.le_refl _) 2 (.int .i64 o.2)
  generalize ((w1.setCell ⟨w.heap.size,0,none⟩ (.int .i64 ((s.acked:Int)+1))).setCell ⟨w.heap.size,1,none⟩ (.int .i64 o.1)).setCell ⟨w.heap.size,2,none⟩ (.int .i64 o.2)=W at *
  have BW2:=BW.mk (.cells #[.int .i64 ((s.acked:Int)+1),.int .i64 o.1,.int .i64 o.2] 99)
  have e0:=BW2.c 0 (.int .i64 ((s.acked:Int)+1))
  have e1:=BW2.c 1 (.int .i64 o.1)
  have e2:=BW2.c 2 (.int .i64 o.2)
  have HW2:=HW.trans ((below_new W (.cells #[.int .i64 ((s.acked:Int)+1),.int .i64 o.1,.int .i64 o.2] 99)).mono HW.size)
  exact bodyPost_ret (v:=.tuple #[.agg #[.int .i64 ((s.acked:Int)+1),.int .i64 o.1,.int .i64 o.2],.int .i64 0]) (by simp[results,results77,go_sem,e0,e1,e2]) rfl ⟨rfl,HW2⟩
structure Started (w w':World)(xb mb n0:Nat)(g:ByteArray->ByteArray)(c:Cfg)(L:List UInt8)(lv:Value):Prop where
  up:∃Y rb yb,UpIs w' Y xb mb n0 rb yb c (Ts.start g) L false 0 lv/\w.heap.size<=rb/\∀k,Y k->w.heap.size<=k
  only:Only w w' (λk=>k=xb)
theorem mStart (xb mb n0:Nat)(g:ByteArray->ByteArray)(c:Cfg)(L:List UInt8)(lv:Value)(up:Option Addr)(w:World)(hB:Bx w xb 135 (machCells c mb lv (.pointer up)))(hL:Sl w 5 1 lv L.length (bc L))(hm:FilesMap w mb n0 g):
    Calls prog 75 #[.pointer (some ⟨xb,0,none⟩)] w λe w'=>e=.returned (.tuple #[])/\Started w w' xb mb n0 g c L lv:=by
  have hN:=yNew mb n0 g c w.drew hm
  have HM:Hid (TyAt w mb tMap):=hm.ty
  have hmx:Hid (mb≠xb):=λe=>absurd (hm.ty.one (e▸hB.ty)) (by decide)
  clear hm
  have b0:w.cell? ⟨xb,0,none⟩=some (.int .i64 c.lanes):=hB.cell (i:=0) rfl
  have b1:w.cell? ⟨xb,1,none⟩=some (.int .i64 c.age):=hB.cell (i:=1) rfl
  have b2:w.cell? ⟨xb,2,none⟩=some (.int .i64 c.batch):=hB.cell (i:=2) rfl
  have b3:w.cell? ⟨xb,3,none⟩=some (.int .i64 c.window):=hB.cell (i:=3) rfl
  have b4:w.cell? ⟨xb,4,none⟩=some (.int .i64 c.retries):=hB.cell (i:=4) rfl
  have b5:w.cell? ⟨xb,5,none⟩=some (.int .i64 c.deadline):=hB.cell (i:=5) rfl
  have b6:w.cell? ⟨xb,6,none⟩=some (.int .i64 c.queue):=hB.cell (i:=6) rfl
  have b7:w.cell? ⟨xb,7,none⟩=some (.map (some mb)):=hB.cell (i:=7) rfl
  have b9:w.cell? ⟨xb,9,none⟩=some (.pointer up):=hB.cell (i:=9) rfl
  have f9:=hB.fr 9
  have HB:Hid (Bx w xb 135 (machCells c mb lv (.pointer up))):=hB
  have HL:Hid (Sl w 5 1 lv L.length (bc L)):=hL
  have hxl:=hB.lt
  have hk:∀(W:World) (v:Value) (i:Nat),i≠9->(W.setCell ⟨xb,9,none⟩ v).cell? ⟨xb,i,none⟩=W.cell? ⟨xb,i,none⟩:=λW v i hi=>World.cell?_setCell_other _ _ _ _ (by intro e;injection e with e1 e2;omega)
  clear hB hL
  go_enter func75,ntmps75
  go_wp2_with fail
  go_region_held_law (λw'=>w'.cell? ⟨xb,0,none⟩=some (.int .i64 c.lanes)/\w'.cell? ⟨xb,1,none⟩=some (.int .i64 c.age)/\w'.cell? ⟨xb,2,none⟩=some (.int .i64 c.batch)/\w'.cell? ⟨xb,3,none⟩=some (.int .i64 c.window)/\w'.cell? ⟨xb,4,none⟩=some (.int .i64 c.retries)/\w'.cell? ⟨xb,5,none⟩=some (.int .i64 c.deadline)/\w'.cell? ⟨xb,6,none⟩=some (.int .i64 c.queue)/\w'.cell? ⟨xb,7,none⟩=some (.map (some mb))) (first|go_keep|(refine⟨?_,?_,?_,?_,?_,?_,?_,?_⟩<;>(rw[hk _ _ _ (by decide)];exact jcell_after (below_new _ _) (by assumption)))) ((go_at_call 114;refine hN.mono ?_;rintro e w1 ⟨⟨yb,rfl,hyb,hY1⟩,hb1⟩;have a0:=jcell_after hb1 b0;have a1:=jcell_after hb1 b1;have a2:=jcell_after hb1 b2;have a3:=jcell_after hb1 b3;have a4:=jcell_after hb1 b4;have a5:=jcell_after hb1 b5;have a6:=jcell_after hb1 b6;have a7:=jcell_after hb1 b7;have a9:=jcell_after hb1 b9;have g9:w1.frozen? ⟨xb,9,none⟩=false:=frozen_after hb1 hxl f9;have g9o:∀o,(w1.alloc o).frozen? ⟨xb,9,none⟩=false:=(λo=>frozen_after (below_new w1 o) (jcell_lt a9) g9);have a9o:∀o,(w1.alloc o).cell? ⟨xb,9,none⟩=some (.pointer up):=(λo=>jcell_after (below_new w1 o) a9);have HY1:Hid (YardAt w1 (λk=>w.drew.heap.size<=k/\k<w1.heap.size) yb mb n0 c (Ts.start g)):=hY1;have HB1:Hid (Below w.heap.size w w1):=⟨hb1.os,hb1.tape,hb1.output,hb1.size,hb1.block⟩;clear hY1 hb1))
  all_goals
    go_wp2_with fail
    have hs:=HB1.out.size
    have hBn:=(HB.out.later HB1.out).mk (.cells (runCells yb false 0) 137)
    have hRn:=Bx.new w1 (runCells yb false 0) 137
    have hYn:=HY1.out.later (below_new w1 (.cells (runCells yb false 0) 137))
    have hLn:=(HL.out.later HB1.out).mk (.cells (runCells yb false 0) 137)
    have O1:Only w (w1.alloc (.cells (runCells yb false 0) 137)) (λk=>k=xb):=Only.of_below (HB1.out.trans ((below_new w1 _).mono hs))
    have hxw:xb<w1.heap.size:=by omega
    have hln:=hLn.ne hBn (by decide)
    have hw1:(w1.alloc (.cells (runCells yb false 0) 137)).heap.size=w1.heap.size+1:=by simp
    refine bodyPost_end (v:=.tuple #[]) (results_none (by kernel_rfl) _ _ _) rfl ⟨rfl,⟨(λk=>w.heap.size<=k/\k<w1.heap.size),w1.heap.size,yb,⟨hBn.set 9 _,hRn.other (by omega) _ _,hLn.grown (grown_set _ _ _ _) (λg hg e=>hln (by rw[hg];exact e.symm)),?_,?_,?_,?_,?_,?_⟩,hs,λk hk=>hk.1⟩,O1.set (.inl rfl)⟩
    · refine hYn.kept (by simp) λk hk hS=>(grown_set _ _ _ _).block k hk λe=>?_
      injection e with e
      rcases hS with hS|hS
      · have:w.heap.size<=k:=hS.1
        omega
      · exact hmx.out (hS.symm.trans e)
    · exact λh=>by have:w.heap.size<=xb:=h.1;omega
    · exact λh=>Nat.lt_irrefl _ h.2
    · exact λg hg h=>by have h1:=HL.out.lt hg;have:w.heap.size<=g:=h.1;omega
    · exact λk h=>by have:k<w1.heap.size:=h.2;simp;omega
    · exact HM.out.kept ((O1.set (i:=9) (u:=.pointer (some ⟨w1.heap.size,0,none⟩)) (.inl rfl)).block mb HM.out.lt hmx.out)
section
open Go.Sort
theorem within_val (n a b:Int)(r:Bool)(hr:r=true↔(a<=n/\n<=b))(w:World):
    Calls prog 126 #[.int .i64 n,.int .i64 a,.int .i64 b] w λe w'=>e=.returned (.bool r)/\w'=w:=by
  have Hr:Hid (r=true↔(a<=n/\n<=b)):=hr
  clear hr
  by_cases h1:a<=n
  · by_cases h2:n<=b
    · have e:Hid (r=true):=Hr.out.2 ⟨h1,h2⟩
      go_enter func126,ntmps126
      go_wp2
      go_ret
      exact⟨by rw[e.out];rfl,rfl⟩
    · have e:Hid (r=false):=by
        show r=false
        cases r
        · rfl
        · exact absurd (Hr.out.1 rfl).2 h2
      go_enter func126,ntmps126
      go_wp2
      go_ret
      exact⟨by rw[e.out];rfl,rfl⟩
  · have e:Hid (r=false):=by
      show r=false
      cases r
      · rfl
      · exact absurd (Hr.out.1 rfl).1 h1
    go_enter func126,ntmps126
    go_wp2
    go_ret
    exact⟨by rw[e.out];rfl,rfl⟩
def CfgOk (n0 n1 n2 n3 n4 n5 n6:Int):Prop:=(1<=n0/\n0<=4)/\(1<=n1/\n1<=8)/\(1<=n2/\n2<=8)/\(1<=n3/\n3<=4)/\(0<=n4/\n4<=3)/\(1<=n5/\n5<=100)/\(1<=n6/\n6<=16)
theorem mConfig (n0 n1 n2 n3 n4 n5 n6:Int)(w:World):
    Calls prog 84 #[.agg #[.int .i64 n0,.int .i64 n1,.int .i64 n2,.int .i64 n3,.int .i64 n4,.int .i64 n5,.int .i64 n6]] w λe w'=>RetIff e (CfgOk n0 n1 n2 n3 n4 n5 n6)/\Below w.heap.size w w':=by
  have HP:Hid (CfgOk n0 n1 n2 n3 n4 n5 n6↔((1<=n0/\n0<=4)/\(1<=n1/\n1<=8)/\(1<=n2/\n2<=8)/\(1<=n3/\n3<=4)/\(0<=n4/\n4<=3)/\(1<=n5/\n5<=100)/\(1<=n6/\n6<=16))):=Iff.rfl
  generalize CfgOk n0 n1 n2 n3 n4 n5 n6=P at HP ⊢
  by_cases h0:(1<=n0/\n0<=4)
  · have c0:=within_val n0 1 4 true ⟨λ_=>h0,λ_=>rfl⟩
    by_cases h1:(1<=n1/\n1<=8)
    · have c1:=within_val n1 1 8 true ⟨λ_=>h1,λ_=>rfl⟩
      by_cases h2:(1<=n2/\n2<=8)
      · have c2:=within_val n2 1 8 true ⟨λ_=>h2,λ_=>rfl⟩
        by_cases h3:(1<=n3/\n3<=4)
        · have c3:=within_val n3 1 4 true ⟨λ_=>h3,λ_=>rfl⟩
          by_cases h4:(0<=n4/\n4<=3)
          · have c4:=within_val n4 0 3 true ⟨λ_=>h4,λ_=>rfl⟩
            by_cases h5:(1<=n5/\n5<=100)
            · have c5:=within_val n5 1 100 true ⟨λ_=>h5,λ_=>rfl⟩
              by_cases h6:(1<=n6/\n6<=16)
              · have c6:=within_val n6 1 16 true ⟨λ_=>h6,λ_=>rfl⟩
                have F:Hid P:=HP.out.2 ⟨h0,h1,h2,h3,h4,h5,h6⟩
                go_enter func84,ntmps84
                go_wp2_with (first|(go_at_call 126;go_fit (c0 _);rintro e w' ⟨rfl,rfl⟩)|(go_at_call 126;go_fit (c1 _);rintro e w' ⟨rfl,rfl⟩)|(go_at_call 126;go_fit (c2 _);rintro e w' ⟨rfl,rfl⟩)|(go_at_call 126;go_fit (c3 _);rintro e w' ⟨rfl,rfl⟩)|(go_at_call 126;go_fit (c4 _);rintro e w' ⟨rfl,rfl⟩)|(go_at_call 126;go_fit (c5 _);rintro e w' ⟨rfl,rfl⟩)|(go_at_call 126;go_fit (c6 _);rintro e w' ⟨rfl,rfl⟩))
                go_ret
                exact⟨.yes F.out,below_new _ _⟩
              · have c6:=within_val n6 1 16 false ⟨λx=>Bool.noConfusion x,λx=>absurd x h6⟩
                have F:Hid (¬P):=λx=>h6 (HP.out.1 x).2.2.2.2.2.2
                go_enter func84,ntmps84
                go_wp2_with (first|(go_at_call 126;go_fit (c0 _);rintro e w' ⟨rfl,rfl⟩)|(go_at_call 126;go_fit (c1 _);rintro e w' ⟨rfl,rfl⟩)|(go_at_call 126;go_fit (c2 _);rintro e w' ⟨rfl,rfl⟩)|(go_at_call 126;go_fit (c3 _);rintro e w' ⟨rfl,rfl⟩)|(go_at_call 126;go_fit (c4 _);rintro e w' ⟨rfl,rfl⟩)|(go_at_call 126;go_fit (c5 _);rintro e w' ⟨rfl,rfl⟩)|(go_at_call 126;go_fit (c6 _);rintro e w' ⟨rfl,rfl⟩))
                go_ret
                exact⟨.no F.out,below_new _ _⟩
            · have c5:=within_val n5 1 100 false ⟨λx=>Bool.noConfusion x,λx=>absurd x h5⟩
              have F:Hid (¬P):=λx=>h5 (HP.out.1 x).2.2.2.2.2.1
              go_enter func84,ntmps84
              go_wp2_with (first|(go_at_call 126;go_fit (c0 _);rintro e w' ⟨rfl,rfl⟩)|(go_at_call 126;go_fit (c1 _);rintro e w' ⟨rfl,rfl⟩)|(go_at_call 126;go_fit (c2 _);rintro e w' ⟨rfl,rfl⟩)|(go_at_call 126;go_fit (c3 _);rintro e w' ⟨rfl,rfl⟩)|(go_at_call 126;go_fit (c4 _);rintro e w' ⟨rfl,rfl⟩)|(go_at_call 126;go_fit (c5 _);rintro e w' ⟨rfl,rfl⟩))
              go_ret
              exact⟨.no F.out,below_new _ _⟩
          · have c4:=within_val n4 0 3 false ⟨λx=>Bool.noConfusion x,λx=>absurd x h4⟩
            have F:Hid (¬P):=λx=>h4 (HP.out.1 x).2.2.2.2.1
            go_enter func84,ntmps84
            go_wp2_with (first|(go_at_call 126;go_fit (c0 _);rintro e w' ⟨rfl,rfl⟩)|(go_at_call 126;go_fit (c1 _);rintro e w' ⟨rfl,rfl⟩)|(go_at_call 126;go_fit (c2 _);rintro e w' ⟨rfl,rfl⟩)|(go_at_call 126;go_fit (c3 _);rintro e w' ⟨rfl,rfl⟩)|(go_at_call 126;go_fit (c4 _);rintro e w' ⟨rfl,rfl⟩))
            go_ret
            exact⟨.no F.out,below_new _ _⟩
        · have c3:=within_val n3 1 4 false ⟨λx=>Bool.noConfusion x,λx=>absurd x h3⟩
          have F:Hid (¬P):=λx=>h3 (HP.out.1 x).2.2.2.1
          go_enter func84,ntmps84
          go_wp2_with (first|(go_at_call 126;go_fit (c0 _);rintro e w' ⟨rfl,rfl⟩)|(go_at_call 126;go_fit (c1 _);rintro e w' ⟨rfl,rfl⟩)|(go_at_call 126;go_fit (c2 _);rintro e w' ⟨rfl,rfl⟩)|(go_at_call 126;go_fit (c3 _);rintro e w' ⟨rfl,rfl⟩))
          go_ret
          exact⟨.no F.out,below_new _ _⟩
      · have c2:=within_val n2 1 8 false ⟨λx=>Bool.noConfusion x,λx=>absurd x h2⟩
        have F:Hid (¬P):=λx=>h2 (HP.out.1 x).2.2.1
        go_enter func84,ntmps84
        go_wp2_with (first|(go_at_call 126;go_fit (c0 _);rintro e w' ⟨rfl,rfl⟩)|(go_at_call 126;go_fit (c1 _);rintro e w' ⟨rfl,rfl⟩)|(go_at_call 126;go_fit (c2 _);rintro e w' ⟨rfl,rfl⟩))
        go_ret
        exact⟨.no F.out,below_new _ _⟩
    · have c1:=within_val n1 1 8 false ⟨λx=>Bool.noConfusion x,λx=>absurd x h1⟩
      have F:Hid (¬P):=λx=>h1 (HP.out.1 x).2.1
      go_enter func84,ntmps84
      go_wp2_with (first|(go_at_call 126;go_fit (c0 _);rintro e w' ⟨rfl,rfl⟩)|(go_at_call 126;go_fit (c1 _);rintro e w' ⟨rfl,rfl⟩))
      go_ret
      exact⟨.no F.out,below_new _ _⟩
  · have c0:=within_val n0 1 4 false ⟨λx=>Bool.noConfusion x,λx=>absurd x h0⟩
    have F:Hid (¬P):=λx=>h0 (HP.out.1 x).1
    go_enter func84,ntmps84
    go_wp2_with (first|(go_at_call 126;go_fit (c0 _);rintro e w' ⟨rfl,rfl⟩))
    go_ret
    exact⟨.no F.out,below_new _ _⟩
end
section
open Go.Maps
theorem yTree (yb mb n:Nat)(g:ByteArray->ByteArray)(cs:Array Value)(w:World)(hB:Bx w yb 201 cs)(h7:cs[7]? =some (.map (some mb)))(hM:FilesMap w mb n g)(hn:n*32<=140737488355328):
    Calls prog 101 #[.pointer (some ⟨yb,0,none⟩)] w λe w'=>LRes e w w' g n/\Below w.heap.size w w':=by
  obtain⟨D,h1,h2⟩:=hM
  have hL:=list_any mb n D g w h1 h2 hn
  have c7:=hB.cell h7
  clear hB h1 h2
  go_enter func101,ntmps101
  go_wp2_with fail
  go_fit hL
  rintro e w1 ⟨⟨l,b,cap,rfl,hT,hl,hr⟩,hb⟩
  have HR:Hid (LRes (.returned (.slice (some ⟨b,0,none⟩) l.length cap)) w w1 g n):=⟨l,b,cap,rfl,hT,hl,hr⟩
  clear hT hl hr hL
  go_wp2_with fail
  go_ret
  exact⟨HR.out,hb⟩
theorem mTree_up (Y:Nat->Prop)(xb mb n0 rb yb:Nat)(c:Cfg)(s:Ts)(L:List UInt8)(br:Bool)(keep:Int)(lv:Value)(w:World)(hU:UpIs w Y xb mb n0 rb yb c s L br keep lv)(hn:(n0+4*s.outs.length)*32<=140737488355328):
    Calls prog 64 #[.pointer (some ⟨xb,0,none⟩)] w λe w'=>(∃(l:List Fl) (b cap:Nat),e=.returned (.tuple #[.slice (some ⟨b,0,none⟩) l.length cap,.int .i64 0])/\Told l s.tip/\l.length<=n0+4*s.outs.length/\w'.ownsRow w.heap.size 80 2 (.slice (some ⟨b,0,none⟩) l.length cap) l.length (l.flatMap cF))/\Below w.heap.size w w':=by
  obtain⟨q,sb,qv,ov,xt,hy,hx⟩:=hU.yard
  obtain⟨tl,zs,hr⟩:=hy.rest
  have hT:=yTree yb xt.tip (n0+4*s.outs.length) s.tip _ w hy.box rfl (hr.map.more hx) hn
  generalize n0+4*s.outs.length=n at *
  generalize s.tip=g at hT ⊢
  have c9:w.cell? ⟨xb,9,none⟩=some (.pointer (some ⟨rb,0,none⟩)):=hU.box.cell (i:=9) rfl
  have r0:w.cell? ⟨rb,0,none⟩=some (.pointer (some ⟨yb,0,none⟩)):=hU.run.cell (i:=0) rfl
  clear hU hy hr hx hn
  have hTell:Calls prog 100 #[.pointer (some ⟨xb,0,none⟩),.func (.func 101) #[] #[]] w λe w'=>(∃(l:List Fl) (b cap:Nat),e=.returned (.tuple #[.slice (some ⟨b,0,none⟩) l.length cap,.int .i64 0])/\Told l g/\l.length<=n/\w'.ownsRow w.heap.size 80 2 (.slice (some ⟨b,0,none⟩) l.length cap) l.length (l.flatMap cF))/\Below w.heap.size w w':=by
    go_enter func100,ntmps100
    go_wp2_with fail
    go_fit hT
    rintro e w1 ⟨⟨l,b,cap,rfl,h1,h2,h3⟩,hb⟩
    have H1:Hid (Told l g):=h1
    have H3:Hid (w1.ownsRow w.heap.size 80 2 (.slice (some ⟨b,0,none⟩) l.length cap) l.length (l.flatMap cF)):=h3
    clear h1 h3 hT
    go_wp2_with fail
    refine bodyPost_ret (by simp[results,results100,go_sem];rfl) rfl ⟨⟨l,b,cap,by rfl,H1.out,h2,H3.out⟩,hb⟩
  clear hT
  go_enter func64,ntmps64
  go_wp2_with fail
  go_fit hTell
  rintro e w1 ⟨⟨l,b,cap,rfl,h1,h2,h3⟩,hb⟩
  have H1:Hid (Told l g):=h1
  have H3:Hid (w1.ownsRow w.heap.size 80 2 (.slice (some ⟨b,0,none⟩) l.length cap) l.length (l.flatMap cF)):=h3
  clear h1 h3 hTell
  go_wp2_with fail
  refine bodyPost_ret (by simp[results,results64,go_sem];rfl) rfl ⟨⟨l,b,cap,by rfl,H1.out,h2,H3.out⟩,hb⟩
end
end Go.Proofs.YtgamgomepdfgdaaGreat
