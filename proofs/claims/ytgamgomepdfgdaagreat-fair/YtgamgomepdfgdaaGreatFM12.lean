import Derived.Test.YtgamgomepdfgdaaGreatFM09
set_option maxRecDepth 100000
set_option maxHeartbeats 8000000
namespace Go.Proofs.YtgamgomepdfgdaaGreat
open Go.RowKit Go.Proofs.Tryz
abbrev Pw:=Ch×Value
def cP (age:Nat)(x:Pw):List Value:=[.int .i64 x.1.id,.int .i64 x.1.lane,.int .i64 x.1.passed,.int .i64 age,.int .i64 x.1.ord,x.2]
theorem info_pw:(prog.info? 193).map (λi=>(i.zero,i.size,i.bytes))=some (some (.agg #[.int .i64 0,.int .i64 0,.int .i64 0,.int .i64 0,.int .i64 0,.slice none 0 0]),6,64):=by kernel_rfl
theorem wpList_clear_sl' {P:Program}(w:World){ops:Array Oper}{rest:List Oper}{o:Oper}{a:Act}{Q:Exit->Act->World->Prop}(hgd:o.guard=none)(s:Operand)(t:TypeId)(ho:o.op=.call {callee:=.builtin .clear,args:=#[s],argTypes:=#[t]})(e:TypeId)(z:Value)(size:Nat)(ht:P.underlying t=some (.slice e))(hz:∀w,(zeroValue e).run P w=.ok z w)(hzs:z.cells.size=size)(h1:∀u∈z.cells.toList,u.oneCell'=true)(g o' m c:Nat)(hs:a.eval s=.slice (some ⟨g,o',none⟩) (m+1) c)(cur:Array Value)(hb:w.heap[g]? =some (.cells cur e (0,0)))(hfit:o'+(m+1)*size<=cur.size)(h:∀w' cur',w'.heap[g]? =some (.cells cur' e (0,0))->cur'.size=cur.size->(∀j,j<o'->cur'[j]? =cur[j]?)->w.grownBy w' (some g)->wpList P ops Q rest (a.put o.dst (.tuple #[])) w'):wpList P ops Q (o::rest) a w:=by
  refine wpList_plain hgd λK hK=>?_
  have hl:(Builtin.zeroCells z.cells (m+1)).toList.length=(m+1)*size:=by rw[Array.length_toList,size_zeroCells,hzs]
  have hm:∀u∈(Builtin.zeroCells z.cells (m+1)).toList,u.oneCell'=true:=by
    intro u hu
    simp only[Builtin.zeroCells,Array.mem_toList_iff] at hu
    obtain⟨i,hi,rfl⟩:=Array.mem_map.1 hu
    have hi':i<(m+1)*z.cells.size:=by simpa using hi
    have hp:0<z.cells.size:=by
      rcases Nat.eq_zero_or_pos z.cells.size with h0|h0
      · rw[h0] at hi';simp at hi'
      · exact h0
    have hlt:=Nat.mod_lt i hp
    rw[getElem!_pos z.cells _ hlt]
    exact h1 _ (by simp)
  have hst:=run_storeCells_at P g o' e (Builtin.zeroCells z.cells (m+1)).toList 0 cur w hb (by rw[hl];simpa using hfit) hm
  simp only[Nat.add_zero] at hst
  have hr:(Builtin.clear_ #[t] o.type #[.slice (some ⟨g,o',none⟩) (m+1) c]).run P w=.ok (.tuple #[]) (w.setRow g (cur.toList.take o'++(Builtin.zeroCells z.cells (m+1)).toList++cur.toList.drop (o'+(Builtin.zeroCells z.cells (m+1)).toList.length)).toArray):=by
    simp[Builtin.clear_,run_underlying ht,hz,hst]
  unfold Oper.wp execOp
  simp only[ho,resolve,invoke,builtin,Sem.run_bind,Sem.run_pure,Result.andThen_ok,List.map_toArray,List.map_cons,List.map_nil,hs,hr]
  refine hK _ _ (h _ _ (setRow_heap w g cur _ e _ hb) ?_ (λj hj=>?_) ⟨rfl,rfl,rfl,by simp,λk _ hk=>setRow_other w g k _ (λe=>hk (by rw[e]))⟩)
  · simp only[List.size_toArray,List.length_append,List.length_take,List.length_drop,Array.length_toList]
    rw[Array.length_toList] at hl
    omega
  · have:o'<=cur.toList.length:=by rw[Array.length_toList];omega
    rw[List.getElem?_toArray,List.append_assoc,List.getElem?_append_left (by rw[List.length_take];omega),List.getElem?_take_of_lt hj]
    simp
theorem wpList_clear_sl {P:Program}(w:World){ops:Array Oper}{rest:List Oper}{o:Oper}{a:Act}{Q:Exit->Act->World->Prop}(hgd:o.guard=none)(s:Operand)(t:TypeId)(ho:o.op=.call {callee:=.builtin .clear,args:=#[s],argTypes:=#[t]})(e:TypeId)(z:Value)(size:Nat)(ht:P.underlying t=some (.slice e))(hz:∀w,(zeroValue e).run P w=.ok z w)(hzs:z.cells.size=size)(h1:∀u∈z.cells.toList,u.oneCell'=true)(g o' m c:Nat)(hm:0<m)(hs:a.eval s=.slice (some ⟨g,o',none⟩) m c)(cur:Array Value)(hb:w.heap[g]? =some (.cells cur e (0,0)))(hfit:o'+m*size<=cur.size)(h:∀w' cur',w'.heap[g]? =some (.cells cur' e (0,0))->cur'.size=cur.size->(∀j,j<o'->cur'[j]? =cur[j]?)->w.grownBy w' (some g)->wpList P ops Q rest (a.put o.dst (.tuple #[])) w'):wpList P ops Q (o::rest) a w:=by
  obtain⟨k,rfl⟩:∃k,m=k+1:=⟨m-1,by omega⟩
  exact wpList_clear_sl' w hgd s t ho e z size ht hz hzs h1 g o' k c hs cur hb hfit h
theorem zero_pw (w:World):(zeroValue 193).run prog w=.ok (.agg #[.int .i64 0,.int .i64 0,.int .i64 0,.int .i64 0,.int .i64 0,.slice none 0 0]) w:=by kernel_rfl
theorem Sl.row {w:World}{e:TypeId}{size n:Nat}{xs:List Value}{g off cap:Nat}(h:Sl w e size (.slice (some ⟨g,off,none⟩) n cap) n xs):∃cur,w.heap[g]? =some (.cells cur e (0,0))/\n<=cap/\cap<=maxLen/\off+cap*size<=cur.size/\∀j u,xs[j]? =some u->cur[off+j]? =some u:=by
  rcases h.2 with ⟨h',_⟩|⟨g',off',cap',cur,h',hh,h1,h2,h3,hr⟩
  · cases h'
  · cases h'
    exact⟨cur,hh,h1,h2,h3,hr⟩
end Go.Proofs.YtgamgomepdfgdaaGreat
