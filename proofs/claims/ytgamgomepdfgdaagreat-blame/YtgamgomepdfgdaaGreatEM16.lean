import Derived.Lib.AppendZeros
import Derived.Lib.Overlaps
import Derived.Laws.IdiomCopy
import Derived.Test.YtgamgomepdfgdaaGreatEM13
set_option maxRecDepth 100000
set_option maxHeartbeats 8000000
namespace Go.Proofs.YtgamgomepdfgdaaGreat
open Go.RowKit Go.Proofs.Tryz
theorem info_ptr:(prog.info? 210).map (λi=>(i.zero,i.size,i.bytes))=some (some (.pointer none),1,8):=by kernel_rfl
theorem segFirst_some (yb i n:Nat)(t:TypeId)(u v:Value)(a:Option Addr)(hu:u=.pointer a)(cs:Array Value)(xs:List Value)(w:World)(hB:Bx w yb t cs)(hv:cs[i]? =some v)(hS:Sl w 210 1 v (n+1) (u::xs)):
    Calls prog 206 #[.pointer (some ⟨yb,i,none⟩)] w λe w'=>e=.returned (.tuple #[u,.bool true])/\Below w.heap.size w w':=by
  subst hu
  obtain⟨g,off,cap,rfl,hnc,hcm⟩:=hS.addr (by omega)
  have c0:=hB.cell hv
  have d0:w.cell? ⟨g,off,none⟩=some (.pointer a):=hS.cell (j:=0) rfl
  have hne:((n:Int)+1==0)=false:=by simp;omega
  clear hB hS
  go_enter func206,ntmps206
  go_wp2
  refine bodyPost_ret (by simp[results,results206,go_sem];rfl) rfl ⟨by rfl,?_⟩
  exact Below.refl _ _
theorem segFirst_none (yb i:Nat)(t:TypeId)(v:Value)(cs:Array Value)(w:World)(hB:Bx w yb t cs)(hv:cs[i]? =some v)(hS:Sl w 210 1 v 0 []):
    Calls prog 206 #[.pointer (some ⟨yb,i,none⟩)] w λe w'=>e=.returned (.tuple #[.pointer none,.bool false])/\Below w.heap.size w w':=by
  obtain⟨a,cap,rfl⟩:=hS.form
  have c0:=hB.cell hv
  clear hB hS
  go_enter func206,ntmps206
  go_wp2
  refine bodyPost_ret (by simp[results,results206,go_sem];rfl) rfl ⟨by rfl,?_⟩
  exact Below.refl _ _
theorem drop_sl1 {w:World}{e:TypeId}{g off cap n:Nat}{x0:Value}{xs:List Value}(h:Sl w e 1 (.slice (some ⟨g,off,none⟩) (n+1) cap) (n+1) (x0::xs))(z0:Value):
    Sl (w.setCell ⟨g,off,none⟩ z0) e 1 (.slice (some ⟨g,if cap-1=0 then off else off+1,none⟩) n (cap-1)) n xs:=by
  have h1:=h.set 0 z0
  have h2:=h1.tail (k:=1) (by omega) (off':=off+1) (.inl (by omega))
  simpa using h2
theorem drop_world1 {w W:World}{yb i g:Nat}{t e:TypeId}{cs:Array Value}{v':Value}{n size:Nat}{xs:List Value}(hB:Bx w yb t cs)(hS:Sl W e size v' n xs)(hg:w.grownBy W (some g))(hne:g≠yb)(hv:v'.ownBlock=some g):
    Bx (W.setCell ⟨yb,i,none⟩ v') yb t (cs.setIfInBounds i v')/\Sl (W.setCell ⟨yb,i,none⟩ v') e size v' n xs/\Only w (W.setCell ⟨yb,i,none⟩ v') (λk=>k=yb\/some g=some k):=by
  refine⟨(hB.grown hg (by simpa using hne.symm)).set i v',hS.grown (grown_set _ _ _ _) (λk hk e=>?_),?_⟩
  · rw[hv] at hk
    cases hk;cases e;exact hne rfl
  · exact Only.trans (Only.of_grown hg λk h=>.inr h) (S':=λk=>k=yb) (Only.of_grown (grown_set W yb i v') (S:=λk=>k=yb) λk h=>by cases h;rfl) λk h=>.inl (.inl h)
theorem segDrop (yb i n:Nat)(t:TypeId)(v u:Value)(cs:Array Value)(xs:List Value)(w:World)(hB:Bx w yb t cs)(hv:cs[i]? =some v)(hS:Sl w 210 1 v (n+1) (u::xs))(hne:v.ownBlock≠some yb):
    Calls prog 244 #[.pointer (some ⟨yb,i,none⟩)] w λe w'=>e=.returned (.tuple #[])/\∃v',Bx w' yb t (cs.setIfInBounds i v')/\Sl w' 210 1 v' n xs/\v'.ownBlock=v.ownBlock/\Only w w' (λk=>k=yb\/v.ownBlock=some k):=by
  obtain⟨g,off,cap,rfl,hnc,hcm⟩:=hS.addr (by omega)
  have c0:=hB.cell hv
  have f0:=hB.fr i
  have d0:w.cell? ⟨g,off,none⟩=some u:=hS.cell (j:=0) rfl
  have z0:=hS.fr off
  have hn0:((n:Int)+1==0)=false:=by simp;omega
  have hgy:g≠yb:=λe=>hne (by rw[e];rfl)
  have hyg:yb≠g:=hgy.symm
  have HB:Hid (Bx w yb t cs):=hB
  have HS:Hid (Sl w 210 1 (.slice (some ⟨g,off,none⟩) (n+1) cap) (n+1) (u::xs)):=hS
  clear hB hS
  go_enter func244,ntmps244
  go_wp2_with fail
  · subst h
    have hW:=drop_world1 (i:=i) HB.out (drop_sl1 HS.out (.pointer none)) (grown_set _ _ _ _) hgy rfl
    exact bodyPost_end (v:=.tuple #[]) (results_none (by kernel_rfl) _ _ _) rfl ⟨rfl,_,hW.1,hW.2.1,rfl,hW.2.2⟩
  · have hc:¬cap-1=0:=by omega
    have hD:=drop_sl1 HS.out (.pointer none)
    rw[if_neg hc] at hD
    have hW:=drop_world1 (i:=i) HB.out hD (grown_set _ _ _ _) hgy rfl
    exact bodyPost_end (v:=.tuple #[]) (results_none (by kernel_rfl) _ _ _) rfl ⟨rfl,_,hW.1,hW.2.1,rfl,hW.2.2⟩
theorem segAdd (yb i n:Nat)(t:TypeId)(a0:Option Addr)(v:Value)(cs:Array Value)(xs:List Value)(w:World)(hB:Bx w yb t cs)(hv:cs[i]? =some v)(hS:Sl w 210 1 v n xs)(hne:v.ownBlock≠some yb)(hn:n<1048576000):
    Calls prog 240 #[.pointer (some ⟨yb,i,none⟩),.pointer a0] w λe w'=>e=.returned (.tuple #[])/\∃v',Bx w' yb t (cs.setIfInBounds i v')/\Sl w' 210 1 v' (n+1) (xs++[.pointer a0])/\(v'.ownBlock=v.ownBlock\/∃g,v'.ownBlock=some g/\w.heap.size<=g)/\Only w w' (λk=>k=yb\/v.ownBlock=some k):=by
  obtain⟨i0,hi,hz0,hz1,hz2⟩:=info_parts info_ptr
  obtain⟨oa,ocap,rfl⟩:=hS.form
  have q1:Hid (n+1<=maxLen):=by show _<=_;unfold maxLen;omega
  have q2:Hid ((n+1)*8<=140737488355328):=Nat.le_trans (Nat.mul_le_mul_right 8 (show n+1<=1048576000 by omega)) (by decide)
  have HB:Hid (Bx w yb t cs):=hB
  have HS:Hid (Sl w 210 1 (.slice oa n ocap) n xs):=hS
  have hlt:=hB.lt
  have c12:=hB.cell hv
  clear hB hS
  go_enter func240,ntmps240
  go_wp2_with (at_builtin;refine wpList_append_sl _ rfl _ _ 195 rfl _ i0 _ 1 8 underlying195 hi hz0 hz1 hz2 rfl (by decide) (.slice oa n ocap) _ _ rfl (Sl.mk HS.out _) ⟨w.heap.size,0,none⟩ 1 1 [.pointer a0] rfl rfl (cells_new w _ _) (by simp[Value.oneCell']) q1.out q2.out ?_;intro v3 w3 hown3 hg3 hloc3;obtain⟨a3,c3,rfl⟩:=hown3.form;have HB3:Hid (Bx w3 yb t cs):=Bx.grown (HB.out.mk _) hg3 (λe=>hne e.symm);have d12:=HB3.out.cell hv;have f3:=HB3.out.fr i;have O3:Hid (Sl w3 210 1 (.slice a3 (n+1) c3) (n+1) (xs++[.pointer a0])):=hown3;have G3:Hid (w.grownBy w3 (Value.slice oa n ocap).ownBlock):=(World.grownBy_alloc w _ _).trans ⟨hg3.os,hg3.tape,hg3.output,hg3.size,hg3.block⟩;have L3:Hid ((Value.slice a3 (n+1) c3).ownBlock=(Value.slice oa n ocap).ownBlock\/∃g,(Value.slice a3 (n+1) c3).ownBlock=some g/\w.heap.size<=g):=hloc3.imp (λh=>h) (λ⟨g,h,hle⟩=>⟨g,h,Nat.le_trans (by simp) hle⟩);clear hown3 hg3 hloc3)
  all_goals
    have nnb:(Value.slice a3 (n+1) c3).ownBlock≠some yb:=by
      rcases L3.out with h|⟨g,h,hg⟩
      · rw[h];exact hne
      · rw[h];intro e;cases e;omega
    refine bodyPost_end (v:=.tuple #[]) (results_none (by kernel_rfl) _ _ _) rfl ⟨rfl,_,HB3.out.set i _,Sl.grown O3.out (grown_set _ _ _ _) (λg hg e=>nnb (by rw[hg];exact e.symm)),L3.out,?_⟩
    exact Only.trans (Only.of_grown G3.out λk h=>.inr h) (Only.of_grown (grown_set _ _ _ _) (S:=λk=>k=yb) λk h=>by cases h;rfl) λk h=>.inl (.inl h)
section
open Go.Lib
theorem run_append_zeros_over {P:Program}(w:World)(t tn ty e:TypeId)(i:TypeInfo)(z:Value)(k kn:IntKind)(ht:P.underlying t=some (.slice e))(htn:P.underlying tn=some (.int kn))(hi:P.info? e=some i)(hz:i.zero=some z)(base:Option Addr)(c n:Nat)(hc:c<n)(hs:0<i.size)(h63:(n:Int)<=9223372036854775807)(h48:n*i.bytes<=140737488355328):
    (Builtin.append_ #[t,tn] ty #[.slice base 0 c,.int k n]).run P w=
      .ok (.slice (some ⟨w.heap.size,0,none⟩) n (grownCap w n c e)) (w.drew.alloc (.cells (Builtin.zeroCells z.cells n++Builtin.zeroCells z.cells (grownCap w n c e-n)) e)):=by
  have hn:n≠0:=by omega
  have hw:IntKind.i64.wrap (n:Int)=n:=by rw[IntKind.wrap_i64];omega
  have h63':¬(9223372036854775807<(n:Int)):=by omega
  have h48':¬(281474976710656<Builtin.nextslicecap n c*i.bytes):=by
    have:=growslice_fits hc h48
    omega
  have h48i:¬(281474976710656<(n:Int)*(i.bytes:Int)):=by
    rw[<-Int.natCast_mul]
    omega
  have hneg:¬((n:Int)<0):=by omega
  have hns:¬(n*i.size=0):=Nat.mul_ne_zero hn (by omega)
  have hcn:¬n<=c:=by omega
  have hf:∀W:World,(Builtin.firstCells i.size 0 (.slice base 0 c)).run P W=.ok #[] W:=λW=>by
    have hl:∀x:Addr,(loadCells x 0).run P W=.ok #[] W:=λx=>by simpa using run_loadCells_list (P:=P) W x [] (by simp)
    cases base<;>simp[Builtin.firstCells,hl]
  simp[Builtin.append_,run_underlying ht,run_underlying htn,sizeOf,typeInfo,zeroValue,hi,hz,asInt,asIntOf,hw,hneg,hns,h63',h48',h48i,hcn,Question.forced,hf,newRow,grownCap]
structure Over (w w':World)(g:Nat)(e:TypeId)(o:Nat)(vs:List Value)(cur cur':Array Value):Prop where
  row:w'.heap[g]? =some (.cells cur' e (0,0))
  size:cur'.size=cur.size
  inn:∀j u,vs[j]? =some u->cur'[o+j]? =some u
  out:∀k,(k<o\/o+vs.length<=k)->cur'[k]? =cur[k]?
  grown:w.grownBy w' (some g)
theorem over_setCells (g:Nat)(e:TypeId):∀(vs:List Value) (o:Nat) (w:World) (cur:Array Value),w.heap[g]? =some (.cells cur e (0,0))->o+vs.length<=cur.size->∃cur',Over w (w.setCells g o vs) g e o vs cur cur'
  |[],o,w,cur,h,_=>⟨cur,h,rfl,λj u hu=>by simp at hu,λ_ _=>rfl,World.grownBy.refl _ _⟩
  |v::vs,o,w,cur,h,hl=>by
    have h1:(w.setCell ⟨g,o,none⟩ v).heap[g]? =some (.cells (cur.setIfInBounds o v) e (0,0)):=by simp[World.setCell,Array.getElem?_modify,h]
    simp only[List.length_cons] at hl
    obtain⟨cur',r1,r2,r3,r4,r5⟩:=over_setCells g e vs (o+1) _ _ h1 (by simp;omega)
    refine⟨cur',r1,by simpa using r2,λj u hu=>?_,λk hk=>?_,(grown_set w g o v).trans r5⟩
    · cases j with
      |zero=>
        simp only[List.getElem?_cons_zero,Option.some.injEq] at hu
        subst hu
        rw[Nat.add_zero,r4 o (by omega),Array.getElem?_setIfInBounds]
        simp;omega
      |succ j=>
        rw[List.getElem?_cons_succ] at hu
        rw[show o+(j+1)=o+1+j by omega]
        exact r3 j u hu
    · simp only[List.length_cons] at hk
      rw[r4 k (by omega),Array.getElem?_setIfInBounds_ne (by omega)]
theorem run_copy_over {P:Program}(w:World)(t ty elem:TypeId)(g o dLen dCap:Nat)(a:Addr)(m sCap:Nat)(cs:List Value)(cur:Array Value)(hu:P.underlying t=some (.slice elem))(hs:(P.info? elem).map (·.size)=some 1)(hl:cs.length=Nat.min m dLen)(hg:w.heap[g]? =some (.cells cur elem (0,0)))(hfit:o+cs.length<=cur.size)(hsrc:∀j v,cs[j]? =some v->w.cell? (a.add j)=some v)(h1:∀v∈cs,v.oneCell'=true):
    ∃w' cur',(Builtin.copy_ #[t,t] ty #[.slice (some ⟨g,o,none⟩) dLen dCap,.slice (some a) m sCap]).run P w=.ok (goInt cs.length) w'/\Over w w' g elem o cs cur cur':=by
  obtain⟨cur',h⟩:=over_setCells g elem cs o w cur hg hfit
  refine⟨_,cur',?_,h⟩
  exact run_copy_cells (P:=P) w t t ty elem g o dLen dCap a m sCap cs hu hs hl hsrc (λj hj=>by
    have:o+j<cur.size:=by omega
    simp[World.cell?,hg,this]) (λj _=>by simp[World.frozen?,hg]) h1
theorem wpList_copy_over {P:Program}(w:World){ops:Array Oper}{rest:List Oper}{o:Oper}{a:Act}{Q:Exit->Act->World->Prop}(hgd:o.guard=none)(d s:Operand)(t:TypeId)(ho:o.op=.call {callee:=.builtin .copy,args:=#[d,s],argTypes:=#[t,t]})(elem:TypeId)(hu:P.underlying t=some (.slice elem))(hs:(P.info? elem).map (·.size)=some 1)(g of dLen dCap:Nat)(ad:Addr)(m sCap:Nat)(cs:List Value)(cur:Array Value)(hd:a.eval d=.slice (some ⟨g,of,none⟩) dLen dCap)(hsv:a.eval s=.slice (some ad) m sCap)(hl:cs.length=Nat.min m dLen)(hg:w.heap[g]? =some (.cells cur elem (0,0)))(hfit:of+cs.length<=cur.size)(hsrc:∀j v,cs[j]? =some v->w.cell? (ad.add j)=some v)(h1:∀v∈cs,v.oneCell'=true)(h:∀w' cur',Over w w' g elem of cs cur cur'->wpList P ops Q rest (a.put o.dst (goInt cs.length)) w'):wpList P ops Q (o::rest) a w:=by
  refine wpList_plain hgd λK hK=>?_
  obtain⟨w',cur',hr,h2⟩:=run_copy_over (P:=P) w t o.type elem g of dLen dCap ad m sCap cs cur hu hs hl hg hfit hsrc h1
  unfold Oper.wp execOp
  simp only[ho,resolve,invoke,builtin,Sem.run_bind,Sem.run_pure,Result.andThen_ok,List.map_toArray,List.map_cons,List.map_nil,hd,hsv,hr]
  exact hK _ _ (h w' cur' h2)
theorem step_copy_over {P:Program}{ops:Array Oper}{o:Oper}{a:Act}{w:World}{K:Act->World->Prop}{Q:Exit->Act->World->Prop}{E:Prop}(hgd:o.guard=none)(d s:Operand)(t:TypeId)(ho:o.op=.call {callee:=.builtin .copy,args:=#[d,s],argTypes:=#[t,t]})(elem:TypeId)(hu:P.underlying t=some (.slice elem))(hs:(P.info? elem).map (·.size)=some 1)(g of dLen dCap:Nat)(ad:Addr)(m sCap:Nat)(cs:List Value)(cur:Array Value)(hd:a.eval d=.slice (some ⟨g,of,none⟩) dLen dCap)(hsv:a.eval s=.slice (some ad) m sCap)(hl:cs.length=Nat.min m dLen)(hg:w.heap[g]? =some (.cells cur elem (0,0)))(hfit:of+cs.length<=cur.size)(hsrc:∀j v,cs[j]? =some v->w.cell? (ad.add j)=some v)(h1:∀v∈cs,v.oneCell'=true)(hK:∀w' cur',Over w w' g elem of cs cur cur'->K (a.put o.dst (goInt cs.length)) w'):if Region.wanted o (yielded ops a.tmps)=true then Oper.wp P o a w K Q else E:=by
  have hw:Region.wanted o (yielded ops a.tmps)=true:=by simp[Region.wanted,hgd]
  rw[if_pos hw]
  obtain⟨w',cur',hr,h2⟩:=run_copy_over (P:=P) w t o.type elem g of dLen dCap ad m sCap cs cur hu hs hl hg hfit hsrc h1
  unfold Oper.wp execOp
  simp only[ho,resolve,invoke,builtin,Sem.run_bind,Sem.run_pure,Result.andThen_ok,List.map_toArray,List.map_cons,List.map_nil,hd,hsv,hr]
  exact hK w' cur' h2
end
section
open Go.Lib
theorem step_append_over {P:Program}{ops:Array Oper}{o:Oper}{a:Act}{w:World}{K:Act->World->Prop}{Q:Exit->Act->World->Prop}{E:Prop}(hg:o.guard=none)(s x:Operand)(t:TypeId)(hop:o.op=Op.call {callee:=Callee.builtin Builtin.append,args:=#[s,x],argTypes:=#[t,t]})(e:TypeId)(i:TypeInfo)(size:Nat)(h1:P.underlying t=some (.slice e))(h2:P.info? e=some i)(h4:i.size=size)(b off n cap:Nat)(hs:a.eval s=.slice (some ⟨b,off,none⟩) n cap)(ad:Addr)(m c:Nat)(news:List Value)(hx:a.eval x=.slice (some ad) m c)(hn:news.length=m*size)(hc:∀j u,news[j]? =some u->w.cell? (ad.add j)=some u)(h1c:∀u∈news,u.oneCell'=true)(hroom:n+m<=cap)(cur:Array Value)(hb:w.heap[b]? =some (.cells cur e (0,0)))(hfit:off+n*size+news.length<=cur.size)(hK:∀w' cur',Over w w' b e (off+n*size) news cur cur'->K (a.put o.dst (.slice (some ⟨b,off,none⟩) (n+m) cap)) w'):
    if Region.wanted o (yielded ops a.tmps)=true then Oper.wp P o a w K Q else E:=by
  obtain⟨cur',h⟩:=over_setCells b e news (off+n*size) w cur hb hfit
  exact step_append_room hg s x t hop e i size h1 h2 h4 b off n cap hs ad m c news hx hn hc h1c hroom (λj hj=>by
    have:off+n*size+j<cur.size:=by omega
    exact⟨by simp[World.cell?,hb,this],by simp[World.frozen?,hb]⟩) (hK _ _ h)
theorem delete_first (q:List Pw)(age k g off cap:Nat)(w:World)(hS:Sl w 193 6 (.slice (some ⟨g,off,none⟩) q.length cap) q.length (q.flatMap (cP age)))(hsl:∀x∈q,IsSl x.2)(hk:0<k)(hkl:k<=q.length)(hn:q.length<=16):
    Calls prog 241 #[.slice (some ⟨g,off,none⟩) q.length cap,.int .i64 0,.int .i64 k] w λe w'=>e=.returned (.slice (some ⟨g,off,none⟩) (q.length-k) cap)/\Sl w' 193 6 (.slice (some ⟨g,off,none⟩) (q.length-k) cap) (q.length-k) ((q.drop k).flatMap (cP age))/\w.grownBy w' (some g):=by
  obtain⟨i0,hi,hz0,hz1,hz2⟩:=info_parts info_pw
  obtain⟨cur,hcur,h1,h2,hfit,hcells⟩:=hS.row
  unfold maxLen at h2
  have hlen:((q.drop k).flatMap (cP age)).length=(q.length-k)*6:=by rw[flat_len (cP age) 6 (λ_=>rfl),List.length_drop]
  have hdrop:(q.flatMap (cP age)).drop (k*6)=(q.drop k).flatMap (cP age):=by
    conv=>lhs;rw[<-List.take_append_drop k q,List.flatMap_append]
    rw[List.drop_left' (by rw[flat_len (cP age) 6 (λ_=>rfl),List.length_take,Nat.min_eq_left hkl])]
  have hone:∀u∈(q.drop k).flatMap (cP age),u.oneCell'=true:=λu hu=>by
    obtain⟨y,hy,hu⟩:=List.mem_flatMap.1 hu
    obtain⟨ea,en,ec,he⟩:=hsl y (List.mem_of_mem_drop hy)
    simp[cP,he] at hu
    rcases hu with rfl|rfl|rfl|rfl|rfl|rfl<;>rfl
  have HG:Hid (w.heap[g]? =some (.cells cur 193 (0,0))):=hcur
  have HF:Hid (off+cap*6<=cur.size):=hfit
  have HO:Hid (∀u∈(q.drop k).flatMap (cP age),u.oneCell'=true):=hone
  have HL:Hid (((q.drop k).flatMap (cP age)).length=(q.length-k)*6):=hlen
  have HFit:Hid (off+0*6+((q.drop k).flatMap (cP age)).length<=cur.size):=by
    show _<=_
    omega
  have HC:Hid (∀A:Nat,(A=off+k*6\/q.length-k=0)->∀j u,((q.drop k).flatMap (cP age))[j]? =some u->w.drew.cell? ((⟨g,A,none⟩:Addr).add j)=some u):=λA hA j u hj=>by
    have hjl:=(List.getElem?_eq_some_iff.1 hj).1
    rw[<-hdrop,List.getElem?_drop] at hj
    rw[show (⟨g,A,none⟩:Addr).add j=⟨g,A+j,none⟩ by
      unfold Addr.add
      by_cases h:j=0
      · subst h;simp
      · simp[h],cell_drew]
    have hc:=hcells _ u hj
    rcases hA with rfl|hA
    · rw[Nat.add_assoc]
      simp[World.cell?,hcur,hc]
    · rw[hlen,hA] at hjl
      omega
  generalize (q.drop k).flatMap (cP age)=news at *
  generalize q.length=n at *
  have q1:¬((0:Int)=k):=by omega
  have q2:((0:Int)==(k:Int))=false:=by simp;omega
  have q3:(k:Int)<=n:=by omega
  have q4:(0:Int)<=k:=by omega
  have q5:(k:Int)≠0:=by omega
  have hck:¬cap=0:=by omega
  have wk:IntKind.i64.wrap (k:Int)=k:=wrap_i64 (by omega) (by omega)
  have hroom:Hid (0+(n-k)<=cap):=by
    show _<=_
    omega
  clear hS hcur hfit hcells hlen hone hdrop hsl
  have hsub:¬cap-(n-k)=0:=by omega
  by_cases hcap:cap=k
  · obtain rfl:n=k:=by omega
    subst hcap
    go_enter func241,ntmps241
    go_wp2_with fail
    go_region_law ((first|(refine step_append_over rfl _ _ 190 rfl 193 i0 6 underlying190 hi hz1 g off 0 cap (by simp[Act.eval,Act.put]) ⟨g,off,none⟩ 0 0 news (by simp[Act.eval,Act.put]) (by simpa using HL.out) (HC.out _ (.inr (Nat.sub_self _))) HO.out (by omega) cur HG.out HFit.out ?_;intro w3 cur3 hO3;have O3:Hid (Over w.drew w3 g 193 (off+0*6) news cur cur3):=hO3;clear hO3)|fail))
    all_goals
      have HF3:Hid (off+cap*6<=cur3.size):=by
        have h3:=O3.out.size
        have h4:=HF.out
        show _<=_
        omega
      go_wp2_with (refine wpList_clear_sl _ rfl _ _ rfl _ _ 6 underlying190 zero_pw rfl (by simp[Value.cells,Value.oneCell']) g off cap cap hk (by simp[Act.eval]) cur3 O3.out.row HF3.out ?_;intro w4 cur4 h3 h4 h5 h6)
      go_ret
      refine⟨by simp,⟨HL.out,.inr ⟨g,off,cap,cur4,by simp,h3,by omega,by unfold maxLen;omega,?_,λj u hu=>?_⟩⟩,?_⟩
      · have:=O3.out.size
        have:=HF.out
        omega
      · have hj:=(List.getElem?_eq_some_iff.1 hu).1
        rw[HL.out] at hj
        omega
      · exact(⟨O3.out.grown.os,O3.out.grown.tape,O3.out.grown.output,O3.out.grown.size,O3.out.grown.block⟩:w.grownBy w3 (some g)).trans h6
  · have hcap':¬cap-k=0:=by omega
    go_enter func241,ntmps241
    go_wp2_with fail
    go_region_law ((first|(refine step_append_over rfl _ _ 190 rfl 193 i0 6 underlying190 hi hz1 g off 0 cap (by simp[Act.eval,Act.put]) ⟨g,off+k*6,none⟩ (n-k) (cap-k) news (by simp[Act.eval,Act.put]) HL.out (HC.out _ (.inl rfl)) HO.out hroom.out cur HG.out HFit.out ?_;intro w3 cur3 hO3;have O3:Hid (Over w.drew w3 g 193 (off+0*6) news cur cur3):=hO3;clear hO3)|fail))
    all_goals
      have HF3:Hid (off+(n-k)*6+k*6<=cur3.size):=by
        have h3:=O3.out.size
        have h4:=HF.out
        show _<=_
        omega
      go_wp2_with (refine wpList_clear_sl _ rfl _ _ rfl _ _ 6 underlying190 zero_pw rfl (by simp[Value.cells,Value.oneCell']) g (off+(n-k)*6) k (cap-(n-k)) hk (by simp[Act.eval];omega) cur3 O3.out.row HF3.out ?_;intro w4 cur4 h3 h4 h5 h6)
      go_ret
      refine⟨rfl,⟨HL.out,.inr ⟨g,off,cap,cur4,rfl,h3,by omega,by unfold maxLen;omega,?_,λj u hu=>?_⟩⟩,?_⟩
      · have:=O3.out.size
        have:=HF.out
        omega
      · have hj:=(List.getElem?_eq_some_iff.1 hu).1
        rw[HL.out] at hj
        rw[h5 _ (by omega)]
        have:=O3.out.inn j u hu
        rwa [Nat.zero_mul,Nat.add_zero] at this
      · exact(⟨O3.out.grown.os,O3.out.grown.tape,O3.out.grown.output,O3.out.grown.size,O3.out.grown.block⟩:w.grownBy w3 (some g)).trans h6
end
end Go.Proofs.YtgamgomepdfgdaaGreat
