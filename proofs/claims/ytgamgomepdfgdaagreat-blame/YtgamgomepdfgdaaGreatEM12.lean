import Derived.Test.YtgamgomepdfgdaaGreatEM09
set_option maxRecDepth 100000
set_option maxHeartbeats 8000000
namespace Go.Proofs.YtgamgomepdfgdaaGreat
open Go.RowKit Go.Proofs.Tryz
theorem wpList_clear_sl' {P:Program}(w:World){ops:Array Oper}{rest:List Oper}{o:Oper}{a:Act}{Q:Exit->Act->World->Prop}(hgd:o.guard=none)(s:Operand)(t:TypeId)(ho:o.op=.call {callee:=.builtin .clear,args:=#[s],argTypes:=#[t]})(e:TypeId)(z:Value)(size:Nat)(ht:P.underlying t=some (.slice e))(hz:∀w,(zeroValue e).run P w=.ok z w)(hzs:z.cells.size=size)(h1:∀u∈z.cells.toList,u.oneCell'=true)(g o' m c:Nat)(hs:a.eval s=.slice (some ⟨g,o',none⟩) (m+1) c)(cur:Array Value)(hb:w.heap[g]? =some (.cells cur e (0,0)))(hfit:o'+(m+1)*size<=cur.size)(h:∀w' cur',w'.heap[g]? =some (.cells cur' e (0,0))->cur'.size=cur.size->(∀j,j<o'->cur'[j]? =cur[j]?)->w.grownBy w' (some g)->wpList P ops Q rest (a.put o.dst (.tuple #[])) w'):wpList P ops Q (o::rest) a w:=by
  refine wpList_plain hgd λK hK=>?_
  have hl:(Builtin.zeroCells z.cells (m+1)).toList.length=(m+1)*size:=by rw[Array.length_toList,size_zeroCells,hzs]
  have hm:∀u∈(Builtin.zeroCells z.cells (m+1)).toList,u.oneCell'=true:=by
    intro u hu
    simp only[Builtin.zeroCells,Array.mem_toList_iff] at hu
    obtain⟨i,hi,rfl⟩:=Array.mem_map.1 hu
    have hi':i<(m+1)*z.cells.size:=by simpa using hi
    have hp:0<z.cells.size:=by
      rcases Nat.eq_zero_or_pos z.cells.size with h0|h0
      · rw[h0] at hi';simp at hi'
      · exact h0
    have hlt:=Nat.mod_lt i hp
    rw[getElem!_pos z.cells _ hlt]
    exact h1 _ (by simp)
  have hst:=run_storeCells_at P g o' e (Builtin.zeroCells z.cells (m+1)).toList 0 cur w hb (by rw[hl];simpa using hfit) hm
  simp only[Nat.add_zero] at hst
  have hr:(Builtin.clear_ #[t] o.type #[.slice (some ⟨g,o',none⟩) (m+1) c]).run P w=.ok (.tuple #[]) (w.setRow g (cur.toList.take o'++(Builtin.zeroCells z.cells (m+1)).toList++cur.toList.drop (o'+(Builtin.zeroCells z.cells (m+1)).toList.length)).toArray):=by
    simp[Builtin.clear_,run_underlying ht,hz,hst]
  unfold Oper.wp execOp
  simp only[ho,resolve,invoke,builtin,Sem.run_bind,Sem.run_pure,Result.andThen_ok,List.map_toArray,List.map_cons,List.map_nil,hs,hr]
  refine hK _ _ (h _ _ (setRow_heap w g cur _ e _ hb) ?_ (λj hj=>?_) ⟨rfl,rfl,rfl,by simp,λk _ hk=>setRow_other w g k _ (λe=>hk (by rw[e]))⟩)
  · simp only[List.size_toArray,List.length_append,List.length_take,List.length_drop,Array.length_toList]
    rw[Array.length_toList] at hl
    omega
  · have:o'<=cur.toList.length:=by rw[Array.length_toList];omega
    rw[List.getElem?_toArray,List.append_assoc,List.getElem?_append_left (by rw[List.length_take];omega),List.getElem?_take_of_lt hj]
    simp
theorem wpList_clear_sl {P:Program}(w:World){ops:Array Oper}{rest:List Oper}{o:Oper}{a:Act}{Q:Exit->Act->World->Prop}(hgd:o.guard=none)(s:Operand)(t:TypeId)(ho:o.op=.call {callee:=.builtin .clear,args:=#[s],argTypes:=#[t]})(e:TypeId)(z:Value)(size:Nat)(ht:P.underlying t=some (.slice e))(hz:∀w,(zeroValue e).run P w=.ok z w)(hzs:z.cells.size=size)(h1:∀u∈z.cells.toList,u.oneCell'=true)(g o' m c:Nat)(hm:0<m)(hs:a.eval s=.slice (some ⟨g,o',none⟩) m c)(cur:Array Value)(hb:w.heap[g]? =some (.cells cur e (0,0)))(hfit:o'+m*size<=cur.size)(h:∀w' cur',w'.heap[g]? =some (.cells cur' e (0,0))->cur'.size=cur.size->(∀j,j<o'->cur'[j]? =cur[j]?)->w.grownBy w' (some g)->wpList P ops Q rest (a.put o.dst (.tuple #[])) w'):wpList P ops Q (o::rest) a w:=by
  obtain⟨k,rfl⟩:∃k,m=k+1:=⟨m-1,by omega⟩
  exact wpList_clear_sl' w hgd s t ho e z size ht hz hzs h1 g o' k c hs cur hb hfit h
theorem flat_set6 (age:Nat)(x:Pw):∀(l:List Pw) (i:Nat),i<l.length->(l.set i x).flatMap (cP age)=((((((l.flatMap (cP age)).set (i*6) (.int .i64 x.1.id)).set (i*6+1) (.int .i64 x.1.lane)).set (i*6+2) (.int .i64 x.1.passed)).set (i*6+3) (.int .i64 age)).set (i*6+4) (.int .i64 x.1.ord)).set (i*6+5) x.2
  |[],_,h=>by simp at h
  |y::l,0,_=>by simp[cP]
  |y::l,i+1,h=>by
    have ih:=flat_set6 age x l i (by simpa using h)
    have e:(i+1)*6=i*6+1+1+1+1+1+1:=by omega
    rw[List.set_cons_succ,List.flatMap_cons,ih,e]
    simp[cP]
theorem Sl.put6 {w:World}{e:TypeId}{g off cap n age:Nat}{q:List Pw}(h:Sl w e 6 (.slice (some ⟨g,off,none⟩) n cap) n (q.flatMap (cP age))){i:Nat}(hi:i<q.length)(x:Pw):
    Sl ((((((w.setCell ⟨g,off+i*6,none⟩ (.int .i64 x.1.id)).setCell ⟨g,off+i*6+1,none⟩ (.int .i64 x.1.lane)).setCell ⟨g,off+i*6+2,none⟩ (.int .i64 x.1.passed)).setCell ⟨g,off+i*6+3,none⟩ (.int .i64 age)).setCell ⟨g,off+i*6+4,none⟩ (.int .i64 x.1.ord)).setCell ⟨g,off+i*6+5,none⟩ x.2) e 6 (.slice (some ⟨g,off,none⟩) n cap) n ((q.set i x).flatMap (cP age)):=by
  rw[flat_set6 age x q i hi]
  have:=(((((h.set (i*6) (.int .i64 x.1.id)).set (i*6+1) (.int .i64 x.1.lane)).set (i*6+2) (.int .i64 x.1.passed)).set (i*6+3) (.int .i64 age)).set (i*6+4) (.int .i64 x.1.ord)).set (i*6+5) x.2
  simpa only[Nat.add_assoc] using this
theorem grown6 (w:World)(g a b c d e f:Nat)(x y z u v t:Value):w.grownBy ((((((w.setCell ⟨g,a,none⟩ x).setCell ⟨g,b,none⟩ y).setCell ⟨g,c,none⟩ z).setCell ⟨g,d,none⟩ u).setCell ⟨g,e,none⟩ v).setCell ⟨g,f,none⟩ t) (some g):=(((((grown_set w g a x).trans (grown_set _ g b y)).trans (grown_set _ g c z)).trans (grown_set _ g d u)).trans (grown_set _ g e v)).trans (grown_set _ g f t)
def woP (id:Nat)(q:List Pw):List Pw:=q.filter λx=>x.1.id !=id
theorem woP_hit {id:Nat}{q:List Pw}{k:Nat}(h:k<q.length)(he:q[k].1.id=id):woP id (q.take (k+1))=woP id (q.take k):=by
  rw[List.take_succ_eq_append_getElem h,woP,woP,List.filter_append];simp[he]
theorem woP_miss {id:Nat}{q:List Pw}{k:Nat}(h:k<q.length)(he:q[k].1.id≠id):woP id (q.take (k+1))=woP id (q.take k)++[q[k]]:=by
  rw[List.take_succ_eq_append_getElem h,woP,woP,List.filter_append];simp[he]
theorem woP_all {id:Nat}{q:List Pw}(h:∀x∈q,x.1.id≠id):woP id q=q:=List.filter_eq_self.2 λx hx=>by simpa using h x hx
structure DelAt (id:Nat)(q:List Pw)(j:Nat)(R:List Pw):Prop where
  len:R.length=q.length
  kept:R.take (woP id (q.take j)).length=woP id (q.take j)
  rest:R.drop j=q.drop j
  less:(woP id (q.take j)).length<j
theorem DelAt.get {id:Nat}{q:List Pw}{j:Nat}{R:List Pw}(h:DelAt id q j R)(hj:j<q.length):R[j]'(by rw[h.len];exact hj)=q[j]:=by
  have h1:(R.drop j)[0]'(by rw[h.rest];simp;omega)=(q.drop j)[0]'(by simp;omega):=by simp only[h.rest]
  simpa using h1
theorem DelAt.miss {id:Nat}{q:List Pw}{j:Nat}{R:List Pw}(h:DelAt id q j R)(hj:j<q.length)(he:q[j].1.id≠id):DelAt id q (j+1) (R.set (woP id (q.take j)).length q[j]):=by
  have hl:=h.less
  have hr:=h.len
  have e:=woP_miss hj he
  refine⟨by rw[List.length_set];exact hr,?_,?_,?_⟩
  · rw[e,List.length_append,List.length_singleton,List.take_succ_eq_append_getElem (by rw[List.length_set];omega),List.take_set_of_le (Nat.le_refl _),h.kept,List.getElem_set_self]
  · rw[List.drop_set_of_lt (by omega),<-List.drop_drop,h.rest,List.drop_drop]
  · rw[e,List.length_append,List.length_singleton];omega
theorem DelAt.hit {id:Nat}{q:List Pw}{j:Nat}{R:List Pw}(h:DelAt id q j R)(hj:j<q.length)(he:q[j].1.id=id):DelAt id q (j+1) R:=by
  have e:=woP_hit hj he
  have hl:=h.less
  refine⟨h.len,by rw[e];exact h.kept,by rw[<-List.drop_drop,h.rest,List.drop_drop],by rw[e];omega⟩
theorem DelAt.start {id:Nat}{q:List Pw}{k:Nat}(hk:k<q.length)(h1:q[k].1.id=id)(h2:∀j (hj:j<k),(q[j]'(by omega)).1.id≠id):DelAt id q (k+1) q/\(woP id (q.take (k+1))).length=k:=by
  have e:woP id (q.take (k+1))=q.take k:=by
    rw[woP_hit hk h1]
    refine woP_all λx hx=>?_
    obtain⟨j,hj,rfl⟩:=List.mem_iff_getElem.1 hx
    rw[List.length_take] at hj
    rw[List.getElem_take]
    exact h2 j (by omega)
  have hl:(q.take k).length=k:=by rw[List.length_take];omega
  exact⟨⟨rfl,by rw[e,hl],rfl,by rw[e,hl];omega⟩,by rw[e,hl]⟩
theorem grown_of_below' {w w':World}(hb:Below w.heap.size w w')(row:Option Nat):w.grownBy w' row:=⟨hb.os,hb.tape,hb.output,hb.size,λk hk _=>hb.block k hk⟩
theorem zero_pw (w:World):(zeroValue 193).run prog w=.ok (.agg #[.int .i64 0,.int .i64 0,.int .i64 0,.int .i64 0,.int .i64 0,.slice none 0 0]) w:=by kernel_rfl
theorem Sl.row {w:World}{e:TypeId}{size n:Nat}{xs:List Value}{g off cap:Nat}(h:Sl w e size (.slice (some ⟨g,off,none⟩) n cap) n xs):∃cur,w.heap[g]? =some (.cells cur e (0,0))/\n<=cap/\cap<=maxLen/\off+cap*size<=cur.size/\∀j u,xs[j]? =some u->cur[off+j]? =some u:=by
  rcases h.2 with ⟨h',_⟩|⟨g',off',cap',cur,h',hh,h1,h2,h3,hr⟩
  · cases h'
  · cases h'
    exact⟨cur,hh,h1,h2,h3,hr⟩
theorem delete_row (q:List Pw)(age id g off cap bk:Nat)(w:World)(hS:Sl w 193 6 (.slice (some ⟨g,off,none⟩) q.length cap) q.length (q.flatMap (cP age)))(hsl:∀x∈q,IsSl x.2)(hq:w.cell? ⟨bk,0,none⟩=some (.int .i64 id))(hbg:bk≠g)(hn:q.length<=16):
    Calls prog 168 #[.slice (some ⟨g,off,none⟩) q.length cap,.func (.func 169) #[] #[.pointer (some ⟨bk,0,none⟩)]] w λe w'=>e=.returned (.slice (some ⟨g,off,none⟩) (woP id q).length cap)/\Sl w' 193 6 (.slice (some ⟨g,off,none⟩) (woP id q).length cap) (woP id q).length ((woP id q).flatMap (cP age))/\w.grownBy w' (some g):=by
  have hI:=index_withdraw q age id g off cap bk w hS hsl hq hn
  have HS:Hid (Sl w 193 6 (.slice (some ⟨g,off,none⟩) q.length cap) q.length (q.flatMap (cP age))):=hS
  have hgl:g<w.heap.size:=hS.lt rfl
  obtain⟨cur0,hx1,hnc,hcm,hx2⟩:=hS.row
  clear hx1 hx2 cur0
  clear hS
  go_enter func168,ntmps168
  go_wp2_with fail
  go_fit hI
  rintro e w1 ⟨⟨r,rfl,hr⟩,hb1⟩
  have HB1:Hid (Below w.heap.size w w1):=hb1
  have q1:=jcell_after hb1 hq
  rcases hr with ⟨rfl,hno⟩|⟨k,rfl,hk,hk1,hk2⟩
  · have hw:Hid (woP id q=q):=woP_all hno
    clear hb1 hno hI
    go_wp2_with fail
    go_ret
    rw[hw.out]
    exact⟨rfl,Sl.later HS.out HB1.out,grown_of_below' HB1.out _⟩
  · obtain⟨hd0,hd1⟩:=DelAt.start hk hk1 hk2
    have HD0:Hid (DelAt id q (k+1) q):=hd0
    have HD1:Hid ((woP id (q.take (k+1))).length=k):=hd1
    have hkne:((k:Int)== -1)=false:=by simp
    clear hd0 hd1 hk1 hk2 hb1 hI
    go_wp2_with fail
    go_loopw [5,6,7] (λiv jv _ wr=>∃(i j:Nat) (R:List Pw),iv=.int .i64 i/\jv=.int .i64 j/\j<=q.length/\Hid (i=(woP id (q.take j)).length)/\i<j/\Hid (DelAt id q j R)/\Hid (Sl wr 193 6 (.slice (some ⟨g,off,none⟩) q.length cap) q.length (R.flatMap (cP age)))/\Hid (w.grownBy wr (some g))) (λ_ j _ _=>q.length-(intOf j).toNat)
    case atStart=>exact⟨k,k+1,q,rfl,by go_num,hk,HD1.out.symm,by omega,HD0.out,Sl.later HS.out HB1.out,grown_of_below' HB1.out _⟩
    case round=>
      obtain⟨i,j,R,rfl,rfl,hj,hi,hij,hD,hSr,hG⟩:=hrel
      have hgr:g<wr.heap.size:=Nat.lt_of_lt_of_le hgl hG.out.size
      have qr:wr.cell? ⟨bk,0,none⟩=some (.int .i64 id):=World.grownBy.cell hG.out hq (by simpa using hbg)
      have bkr:=jcell_lt qr
      by_cases hlj:j<q.length
      · have hRl:=hD.out.len
        have hRj:=hD.out.get hlj
        obtain⟨d0,d1,d2,d3,d4,d5⟩:=hSr.out.elems (i:=j) (by omega)
        obtain⟨y0,y1,y2,y3,y4,y5⟩:=hSr.out.elems (i:=i) (by omega)
        rw[hRj] at d0 d1 d2 d4 d5
        obtain⟨ea,en,ec,he⟩:=hsl _ (List.getElem_mem hlj)
        have hc:=cl_withdraw age id bk q[j].1.id q[j].1.lane q[j].1.passed q[j].1.ord ea en ec (wr.alloc (.cells #[.int .i64 q[j].1.id,.int .i64 q[j].1.lane,.int .i64 q[j].1.passed,.int .i64 age,.int .i64 q[j].1.ord,.slice ea en ec] 193)) ((jcell_after (below_new _ _) qr)) (Nat.lt_of_lt_of_le bkr (by simp))
        have Hhit:Hid (q[j].1.id=id->DelAt id q (j+1) R/\i=(woP id (q.take (j+1))).length):=λh=>⟨hD.out.hit hlj h,by rw[woP_hit hlj h];exact hi.out⟩
        have Hmiss:Hid (q[j].1.id≠id->DelAt id q (j+1) (R.set i q[j])/\i+1=(woP id (q.take (j+1))).length):=λh=>⟨by rw[hi.out];exact hD.out.miss hlj h,by rw[woP_miss hlj h,List.length_append,<-hi.out];rfl⟩
        have Hput:Hid (∀W,Sl W 193 6 (.slice (some ⟨g,off,none⟩) q.length cap) q.length (R.flatMap (cP age))->Sl ((((((W.setCell ⟨g,off+i*6,none⟩ (.int .i64 q[j].1.id)).setCell ⟨g,off+i*6+1,none⟩ (.int .i64 q[j].1.lane)).setCell ⟨g,off+i*6+2,none⟩ (.int .i64 q[j].1.passed)).setCell ⟨g,off+i*6+3,none⟩ (.int .i64 age)).setCell ⟨g,off+i*6+4,none⟩ (.int .i64 q[j].1.ord)).setCell ⟨g,off+i*6+5,none⟩ (.slice ea en ec)) 193 6 (.slice (some ⟨g,off,none⟩) q.length cap) q.length ((R.set i q[j]).flatMap (cP age))):=λW hW=>by
          have:=hW.put6 (i:=i) (by omega) q[j]
          rwa [he] at this
        rw[he] at d5
        generalize q[j].1.id=a0 at *
        generalize q[j].1.lane=a1 at *
        generalize q[j].1.passed=a2 at *
        generalize q[j].1.ord=a3 at *
        have HWs:Hid (Sl (wr.alloc (.cells #[.int .i64 a0,.int .i64 a1,.int .i64 a2,.int .i64 age,.int .i64 a3,.slice ea en ec] 193)) 193 6 (.slice (some ⟨g,off,none⟩) q.length cap) q.length (R.flatMap (cP age))):=hSr.out.mk _
        have hij':i<q.length:=by omega
        have hRi:i<R.length:=by omega
        generalize R[i]=xi at *
        clear he hRj hi hD HD0 HD1
        by_cases hid:a0=id
        · subst hid
          go_wp2_with fail
          go_fit hc
          rintro e w2 ⟨rfl,hb2⟩
          have G2:Hid (w.grownBy w2 (some g)):=(hG.out.trans (World.grownBy_alloc _ _ _)).trans (grown_of_below' hb2 _)
          have S2:Hid (Sl w2 193 6 (.slice (some ⟨g,off,none⟩) q.length cap) q.length (R.flatMap (cP age))):=HWs.out.later hb2
          have HH:Hid (DelAt a0 q (j+1) R/\i=(woP a0 (q.take (j+1))).length):=by first|exact Hhit.out rfl|exact Hhit.out trivial
          clear hb2 hc hSr HWs Hput Hhit Hmiss d0 d1 d2 d3 d4 d5 y0 y1 y2 y3 y4 y5
          go_wp2_with fail
          exact⟨⟨i,j+1,R,rfl,by go_num,hlj,HH.out.2,by omega,HH.out.1,S2.out,G2.out⟩,by simp[intOf];omega⟩
        · have hne:((a0:Int)==(id:Int))=false:=by simp;omega
          rw[hne] at hc
          go_wp2_with fail
          go_fit hc
          rintro e w2 ⟨rfl,hb2⟩
          have G2:Hid (w.grownBy w2 (some g)):=(hG.out.trans (World.grownBy_alloc _ _ _)).trans (grown_of_below' hb2 _)
          have S2:Hid (Sl w2 193 6 (.slice (some ⟨g,off,none⟩) q.length cap) q.length (R.flatMap (cP age))):=HWs.out.later hb2
          have HH:Hid (DelAt id q (j+1) (R.set i q[j])/\i+1=(woP id (q.take (j+1))).length):=Hmiss.out hid
          have t0:w2.cell? ⟨wr.heap.size,0,none⟩=some (.int .i64 a0):=jcell_after hb2 (by simp)
          have t1:w2.cell? ⟨wr.heap.size,1,none⟩=some (.int .i64 a1):=jcell_after hb2 (by simp)
          have t2:w2.cell? ⟨wr.heap.size,2,none⟩=some (.int .i64 a2):=jcell_after hb2 (by simp)
          have t3:w2.cell? ⟨wr.heap.size,3,none⟩=some (.int .i64 age):=jcell_after hb2 (by simp)
          have t4:w2.cell? ⟨wr.heap.size,4,none⟩=some (.int .i64 a3):=jcell_after hb2 (by simp)
          have t5:w2.cell? ⟨wr.heap.size,5,none⟩=some (.slice ea en ec):=jcell_after hb2 (by simp)
          have fr:=λo=>Sl.fr S2.out o
          obtain⟨v0,v1,v2,v3,v4,v5⟩:=Sl.elems S2.out (i:=i) hRi
          clear hb2 hc hSr HWs Hhit Hmiss d0 d1 d2 d3 d4 d5 y0 y1 y2 y3 y4 y5
          generalize R[i]=xi at *
          go_wp2_with fail
          refine⟨⟨i+1,j+1,R.set i q[j],by go_num,by go_num,hlj,HH.out.2,by omega,HH.out.1,Hput.out _ S2.out,G2.out.trans (grown6 _ _ _ _ _ _ _ _ _ _ _ _ _ _)⟩,by simp[intOf];omega⟩
      · obtain rfl:j=q.length:=by omega
        have hi':Hid (i=(woP id q).length):=by
          have:=hi.out
          rw[List.take_length] at this
          exact this
        have hk':Hid (R.take i=woP id q):=by
          have h1:=hD.out.kept
          rw[<-hi.out,List.take_length] at h1
          exact h1
        obtain⟨cur,hcur,_,_,hfit,hcells⟩:=Sl.row hSr.out
        have hfit2:Hid (off+i*6+(q.length-i)*6<=cur.size):=by
          show _<=_
          omega
        have HC:Hid (∀j u,(R.flatMap (cP age))[j]? =some u->cur[off+j]? =some u):=hcells
        have hRl:=hD.out.len
        have HF:Hid (off+cap*6<=cur.size):=hfit
        have hpos:0<q.length-i:=by omega
        clear hi hD hcells hfit HD0 HD1
        go_wp2_with (refine wpList_clear_sl _ rfl _ _ rfl _ _ 6 underlying190 zero_pw rfl (by simp[Value.cells,Value.oneCell']) g (off+i*6) (q.length-i) (cap-i) hpos rfl cur hcur hfit2.out ?_;intro w3 cur3 h3 h4 h5 h6)
        go_ret
        have hflat:(R.flatMap (cP age)).take (i*6)=(woP id q).flatMap (cP age):=by
          rw[<-hk'.out,<-List.take_append_drop i R,List.flatMap_append,List.take_append_drop]
          rw[List.take_append_of_le_length (by rw[flat_len (cP age) 6 (λ_=>rfl),List.length_take];omega),List.take_of_length_le (by rw[flat_len (cP age) 6 (λ_=>rfl),List.length_take];omega)]
        rw[<-hi'.out]
        refine⟨rfl,⟨by rw[flat_len (cP age) 6 (λ_=>rfl),<-hi'.out],.inr ⟨g,off,cap,cur3,rfl,h3,by omega,hcm,by rw[h4];exact HF.out,λx u hu=>?_⟩⟩,hG.out.trans h6⟩
        rw[<-hflat] at hu
        have hx:=(List.getElem?_eq_some_iff.1 hu).1
        rw[List.length_take] at hx
        rw[List.getElem?_take_of_lt (by omega)] at hu
        rw[h5 _ (by omega)]
        exact HC.out x u hu
end Go.Proofs.YtgamgomepdfgdaaGreat
