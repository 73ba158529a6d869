import Derived.Deep.RegionLaw
import Derived.Laws.OwnMore
import Derived.Test.YtgamgomepdfgdaaGreatFM06
set_option maxRecDepth 100000
set_option maxHeartbeats 8000000
namespace Go.Proofs.YtgamgomepdfgdaaGreat
open Go.RowKit Go.Proofs.Tryz
structure Only (w w':World)(S:Nat->Prop):Prop where
  os:w'.os=w.os
  tape:w'.tape=w.tape
  output:w'.output=w.output
  size:w.heap.size<=w'.heap.size
  block:∀k,k<w.heap.size->¬S k->w'.heap[k]? =w.heap[k]?
theorem Only.refl (w:World)(S:Nat->Prop):Only w w S:=⟨rfl,rfl,rfl,Nat.le_refl _,λ_ _ _=>rfl⟩
theorem Only.trans {w w1 w2:World}{S S':Nat->Prop}(h:Only w w1 S)(h2:Only w1 w2 S')(hS:∀k,S' k->S k\/w.heap.size<=k):Only w w2 S:=
  ⟨h2.os.trans h.os,h2.tape.trans h.tape,h2.output.trans h.output,Nat.le_trans h.size h2.size,λk hk hs=>(h2.block k (Nat.lt_of_lt_of_le hk h.size) (λe=>by
    rcases hS k e with h1|h1
    · exact hs h1
    · omega)).trans (h.block k hk hs)⟩
theorem Only.of_grown {w w':World}{row:Option Nat}{S:Nat->Prop}(h:w.grownBy w' row)(hS:∀k,row=some k->S k):Only w w' S:=
  ⟨h.os,h.tape,h.output,h.size,λk hk hs=>h.block k hk (λe=>hs (hS k e.symm))⟩
theorem Only.of_below {w w':World}{S:Nat->Prop}(h:Below w.heap.size w w'):Only w w' S:=⟨h.os,h.tape,h.output,h.size,λk hk _=>h.block k hk⟩
theorem step_append_tells {P:Program}{ops:Array Oper}{o:Oper}{a:Act}{w:World}{K:Act->World->Prop}{Q:Exit->Act->World->Prop}{E:Prop}(hg:o.guard=none)(s x:Operand)(t:TypeId)(ho:o.op=Op.call {callee:=Callee.builtin Builtin.append,args:=#[s,x],argTypes:=#[t,t]})(base:Nat)(e:TypeId)(i:TypeInfo)(z:Value)(size bytes:Nat)(ht:P.underlying t=some (.slice e))(hi:P.info? e=some i)(hz:i.zero=some z)(hsize:i.size=size)(hby:i.bytes=bytes)(hzs:z.cells.size=size)(hsz:0<size)(v:Value)(n:Nat)(xs:List Value)(hs:a.eval s=v)(hown:w.ownsRow base e size v n xs)(ad:Addr)(m c:Nat)(news:List Value)(hx:a.eval x=.slice (some ad) m c)(hl:news.length=m*size)(hnews:∀j u,news[j]? =some u->w.cell? (ad.add j)=some u)(h1:∀u∈news,u.oneCell'=true)(h63:n+m<=maxLen)(hbytes:(n+m)*bytes<=140737488355328)(hbase:base<=w.heap.size)(hK:∀v' w',w'.ownsRow base e size v' (n+m) (xs++news)->w.grownBy w' v.ownBlock->(v'.ownBlock=v.ownBlock\/v'.ownBlock=some w.heap.size)->K (a.put o.dst v') w'):
    if Region.wanted o (yielded ops a.tmps)=true then Oper.wp P o a w K Q else E:=by
  have hw:Region.wanted o (yielded ops a.tmps)=true:=by simp[Region.wanted,hg]
  rw[if_pos hw]
  obtain⟨v',w',hr,h2,h3,_,h5⟩:=run_append_own_at (P:=P) w base t o.type e i z size bytes ht hi hz hsize hby hzs hsz v n xs hown ad m c news hl hnews h1 h63 hbytes hbase
  unfold Oper.wp execOp
  simp only[ho,resolve,invoke,builtin,Sem.run_bind,Sem.run_pure,Result.andThen_ok,List.map_toArray,List.map_cons,List.map_nil,hs,hx,hr]
  exact hK v' w' h2 h3 h5
theorem below_new_drew (w:World)(o:Obj):Below w.heap.size w (w.alloc o).drew:=⟨rfl,rfl,rfl,by simp,λk hk=>Below.heap_alloc _ _ _ hk⟩
theorem Bx.mkd {w:World}{b:Nat}{t:TypeId}{cs:Array Value}(h:Bx w b t cs)(o:Obj):Bx (w.alloc o).drew b t cs:=h.mk o
theorem row_shape3 {w:World}{base:Nat}{e:TypeId}{size n:Nat}{v:Value}{xs:List Value}(h:w.ownsRow base e size v n xs):∃a cap,v=.slice a n cap:=by
  rcases h.2 with ⟨rfl,rfl⟩|⟨g',cap,cur,rfl,_,hh,_⟩
  · exact⟨_,_,rfl⟩
  · exact⟨_,_,rfl⟩
theorem le_mkd (w:World)(o:Obj):w.heap.size<=(w.alloc o).drew.heap.size:=by simp
theorem info_out:(prog.info? 99).map (λi=>(i.zero,i.size,i.bytes))=some (some (.agg #[.int .i64 0,.int .i64 0,.int .i64 0]),3,24):=by kernel_rfl
theorem cells_new (w:World)(cs:List Value)(t:TypeId):∀j u,cs[j]? =some u->(w.alloc (.cells cs.toArray t)).cell? ((⟨w.heap.size,0,none⟩:Addr).add j)=some u:=by
  intro j u h
  rw[addr_add,Nat.zero_add]
  have hb:Bx (w.alloc (.cells cs.toArray t)) w.heap.size t cs.toArray:=Bx.new w _ t
  exact hb.cell (by simpa using h)
def Sl (w:World)(e:TypeId)(size:Nat)(v:Value)(n:Nat)(xs:List Value):Prop:=
  xs.length=n*size/\((v=.slice none 0 0/\n=0)\/∃g off cap cur,v=.slice (some ⟨g,off,none⟩) n cap/\w.heap[g]? =some (.cells cur e (0,0))/\n<=cap/\cap<=maxLen/\off+cap*size<=cur.size/\∀j u,xs[j]? =some u->cur[off+j]? =some u)
theorem Sl.nil (w:World)(e:TypeId)(size:Nat):Sl w e size (.slice none 0 0) 0 []:=⟨by simp,.inl ⟨rfl,rfl⟩⟩
theorem Sl.form {w:World}{e:TypeId}{size n:Nat}{v:Value}{xs:List Value}(h:Sl w e size v n xs):∃a cap,v=.slice a n cap:=by
  rcases h.2 with ⟨rfl,rfl⟩|⟨g,off,cap,cur,rfl,_⟩
  · exact⟨_,_,rfl⟩
  · exact⟨_,_,rfl⟩
theorem Sl.of_row {w:World}{base:Nat}{e:TypeId}{size n:Nat}{v:Value}{xs:List Value}(h:w.ownsRow base e size v n xs):Sl w e size v n xs:=by
  refine⟨h.1,?_⟩
  rcases h.2 with h'|⟨g,cap,cur,rfl,hb,hg,hn,hc,hs,ht⟩
  · exact .inl h'
  · refine .inr ⟨g,0,cap,cur,rfl,hg,hn,hc,by omega,λj u hu=>?_⟩
    rw[<-ht] at hu
    have hj:=(List.getElem?_eq_some_iff.1 hu).1
    rw[List.length_take] at hj
    rw[List.getElem?_take_of_lt (by omega)] at hu
    simpa using hu
theorem Sl.kept {w w':World}{e:TypeId}{size n:Nat}{v:Value}{xs:List Value}(h:Sl w e size v n xs)(hk:∀g,v.ownBlock=some g->w'.heap[g]? =w.heap[g]?):Sl w' e size v n xs:=by
  refine⟨h.1,?_⟩
  rcases h.2 with h'|⟨g,off,cap,cur,rfl,hg,hr⟩
  · exact .inl h'
  · exact .inr ⟨g,off,cap,cur,rfl,(hk g rfl).trans hg,hr⟩
theorem Sl.lt {w:World}{e:TypeId}{size n:Nat}{v:Value}{xs:List Value}(h:Sl w e size v n xs){g:Nat}(hg:v.ownBlock=some g):g<w.heap.size:=by
  rcases h.2 with ⟨rfl,_⟩|⟨g',off,cap,cur,rfl,hh,hr⟩
  · cases hg
  · cases hg
    exact(Array.getElem?_eq_some_iff.1 hh).1
theorem Sl.typed {w:World}{e:TypeId}{size n:Nat}{v:Value}{xs:List Value}(h:Sl w e size v n xs){g:Nat}(hg:v.ownBlock=some g):∃cur,w.heap[g]? =some (.cells cur e (0,0)):=by
  rcases h.2 with ⟨rfl,_⟩|⟨g',off,cap,cur,rfl,hh,hr⟩
  · cases hg
  · cases hg
    exact⟨_,hh⟩
theorem Sl.grown {w w':World}{e:TypeId}{size n:Nat}{v:Value}{xs:List Value}{row:Option Nat}(h:Sl w e size v n xs)(hg:w.grownBy w' row)(hne:∀g,v.ownBlock=some g->row≠some g):Sl w' e size v n xs:=
  h.kept λg hv=>hg.block g (h.lt hv) (λx=>hne g hv x.symm)
theorem Sl.mk {w:World}{e:TypeId}{size n:Nat}{v:Value}{xs:List Value}(h:Sl w e size v n xs)(o:Obj):Sl (w.alloc o) e size v n xs:=h.grown (World.grownBy_alloc w o none) (by simp)
theorem Sl.later {w w':World}{e:TypeId}{size n:Nat}{v:Value}{xs:List Value}(h:Sl w e size v n xs)(hb:Below w.heap.size w w'):Sl w' e size v n xs:=h.kept λg hv=>hb.block g (h.lt hv)
theorem Sl.cell {w:World}{e:TypeId}{size n:Nat}{xs:List Value}{g off cap:Nat}(h:Sl w e size (.slice (some ⟨g,off,none⟩) n cap) n xs){j:Nat}{u:Value}(hu:xs[j]? =some u):w.cell? ⟨g,off+j,none⟩=some u:=by
  rcases h.2 with ⟨h',_⟩|⟨g',off',cap',cur,h',hh,_,_,_,hr⟩
  · cases h'
  · cases h'
    have:=hr j u hu
    simp[World.cell?,hh,this]
theorem Sl.fr {w:World}{e:TypeId}{size n:Nat}{xs:List Value}{g off cap:Nat}(h:Sl w e size (.slice (some ⟨g,off,none⟩) n cap) n xs)(j:Nat):w.frozen? ⟨g,j,none⟩=false:=by
  rcases h.2 with ⟨h',_⟩|⟨g',off',cap',cur,h',hh,_,_,_,hr⟩
  · cases h'
  · cases h'
    simp[World.frozen?,hh]
theorem Sl.addr {w:World}{e:TypeId}{size n:Nat}{v:Value}{xs:List Value}(h:Sl w e size v n xs)(hn:0<n):∃g off cap,v=.slice (some ⟨g,off,none⟩) n cap/\n<=cap/\cap<=maxLen:=by
  rcases h.2 with ⟨_,h0⟩|⟨g,off,cap,cur,rfl,_,h1,h2,_⟩
  · omega
  · exact⟨g,off,cap,rfl,h1,h2⟩
theorem Sl.set {w:World}{e:TypeId}{size n:Nat}{xs:List Value}{g off cap:Nat}(h:Sl w e size (.slice (some ⟨g,off,none⟩) n cap) n xs)(j:Nat)(u:Value):Sl (w.setCell ⟨g,off+j,none⟩ u) e size (.slice (some ⟨g,off,none⟩) n cap) n (xs.set j u):=by
  refine⟨by rw[List.length_set];exact h.1,?_⟩
  rcases h.2 with ⟨h',_⟩|⟨g',off',cap',cur,h',hh,h1,h2,h3,hr⟩
  · cases h'
  · cases h'
    refine .inr ⟨g,off,cap,cur.setIfInBounds (off+j) u,rfl,?_,h1,h2,by simpa using h3,λi x hx=>?_⟩
    · simp[World.setCell,Array.getElem?_modify,hh]
    · rw[List.getElem?_set] at hx
      by_cases e':j=i
      · subst e'
        rw[if_pos rfl] at hx
        by_cases hl:j<xs.length
        · rw[if_pos hl] at hx
          have hc:=hr j xs[j] (by simp[hl])
          have hlt:=(Array.getElem?_eq_some_iff.1 hc).1
          rw[Array.getElem?_setIfInBounds]
          simpa[hlt] using hx
        · rw[if_neg hl] at hx;cases hx
      · rw[if_neg e'] at hx
        rw[Array.getElem?_setIfInBounds_ne (by omega)]
        exact hr i x hx
theorem Sl.cut {w:World}{e:TypeId}{size n:Nat}{xs:List Value}{a:Option Addr}{cap:Nat}(h:Sl w e size (.slice a n cap) n xs){k:Nat}(hk:k<=n):Sl w e size (.slice a k cap) k (xs.take (k*size)):=by
  have h0:=h.1
  refine⟨by rw[List.length_take,h0];exact Nat.min_eq_left (Nat.mul_le_mul_right _ hk),?_⟩
  rcases h.2 with ⟨h',h0⟩|⟨g',off',cap',cur,h',hh,h1,h2,h3,hr⟩
  · cases h'
    obtain rfl:k=0:=by omega
    exact .inl ⟨rfl,rfl⟩
  · cases h'
    refine .inr ⟨g',off',cap,cur,rfl,hh,by omega,h2,h3,λj u hu=>?_⟩
    have hj:=(List.getElem?_eq_some_iff.1 hu).1
    rw[List.length_take] at hj
    rw[List.getElem?_take_of_lt (by omega)] at hu
    exact hr j u hu
theorem Sl.tail {w:World}{e:TypeId}{size n:Nat}{xs:List Value}{g off cap:Nat}(h:Sl w e size (.slice (some ⟨g,off,none⟩) n cap) n xs){k:Nat}(hk:k<=n){off':Nat}(ho:off'=off+k*size\/cap-k=0):Sl w e size (.slice (some ⟨g,if cap-k=0 then off else off',none⟩) (n-k) (cap-k)) (n-k) (xs.drop (k*size)):=by
  have h0:=h.1
  refine⟨by rw[List.length_drop,h0,Nat.sub_mul],?_⟩
  rcases h.2 with ⟨h',_⟩|⟨g',off1,cap',cur,h',hh,h1,h2,h3,hr⟩
  · cases h'
  · cases h'
    by_cases hc:cap-k=0
    · rw[if_pos hc]
      refine .inr ⟨g,off,cap-k,cur,rfl,hh,by omega,by omega,by rw[hc,Nat.zero_mul];omega,λj u hu=>?_⟩
      have:xs.drop (k*size)=[]:=by
        apply List.drop_eq_nil_of_le
        rw[h0];exact Nat.mul_le_mul_right _ (by omega)
      rw[this] at hu;simp at hu
    · rw[if_neg hc]
      obtain rfl:off'=off+k*size:=by omega
      refine .inr ⟨g,_,cap-k,cur,rfl,hh,by omega,by omega,?_,λj u hu=>?_⟩
      · rw[Nat.add_assoc,<-Nat.add_mul,Nat.add_sub_of_le (by omega)];exact h3
      · rw[List.getElem?_drop] at hu
        rw[Nat.add_assoc]
        exact hr _ u hu
theorem run_append_sl {P:Program}(w:World)(t ty e:TypeId)(i:TypeInfo)(z:Value)(size bytes:Nat)(ht:P.underlying t=some (.slice e))(hi:P.info? e=some i)(hz:i.zero=some z)(hsize:i.size=size)(hby:i.bytes=bytes)(hzs:z.cells.size=size)(hsz:0<size)(v:Value)(n:Nat)(xs:List Value)(hown:Sl w e size v n xs)(a:Addr)(m c:Nat)(news:List Value)(hl:news.length=m*size)(hnews:∀j u,news[j]? =some u->w.cell? (a.add j)=some u)(h1:∀u∈news,u.oneCell'=true)(h63:n+m<=maxLen)(hbytes:(n+m)*bytes<=140737488355328):
    ∃v' w',(Builtin.append_ #[t,t] ty #[v,.slice (some a) m c]).run P w=.ok v' w'/\Sl w' e size v' (n+m) (xs++news)/\w.grownBy w' v.ownBlock/\(v'.ownBlock=v.ownBlock\/∃g,v'.ownBlock=some g/\w.heap.size<=g):=by
  rcases hown.2 with ⟨rfl,rfl⟩|⟨g,off,cap,cur,rfl,hg,hnc,hcm,hcs,hr⟩
  · obtain rfl:xs=[]:=List.eq_nil_of_length_eq_zero (by simpa using hown.1)
    obtain⟨v',w',r,r1,r2,_,r4⟩:=run_append_own_at (P:=P) w w.heap.size t ty e i z size bytes ht hi hz hsize hby hzs hsz (.slice none 0 0) 0 [] (World.ownsRow_nil w _ e size) a m c news hl hnews h1 h63 hbytes (Nat.le_refl _)
    exact⟨v',w',r,Sl.of_row r1,r2,r4.imp (λh=>h) (λh=>⟨_,h,Nat.le_refl _⟩)⟩
  · by_cases hroom:n+m<=cap
    · subst hsize
      have hfit:off+n*i.size+news.length<=cur.size:=by
        have:(n+m)*i.size<=cap*i.size:=Nat.mul_le_mul_right _ hroom
        rw[Nat.add_mul] at this
        omega
      have hf:=run_firstCells_some (P:=P) w i.size m a m c news hl hnews
      have hst:=run_storeCells_at P g (off+n*i.size) e news 0 cur w hg (by simpa using hfit) h1
      simp only[Nat.add_zero] at hst
      refine⟨.slice (some ⟨g,off,none⟩) (n+m) cap,w.setRow g (cur.toList.take (off+n*i.size)++news++cur.toList.drop (off+n*i.size+news.length)).toArray,?_,⟨?_,?_⟩,?_,.inl rfl⟩
      · simp[Builtin.append_,run_underlying ht,sizeOf,typeInfo,hi,Builtin.lenOf,hroom,hf,Addr.add_lit,hst]
      · rw[List.length_append,hown.1,hl,Nat.add_mul]
      · refine .inr ⟨g,off,cap,_,rfl,setRow_heap w g cur _ e _ hg,hroom,hcm,?_,λj u hu=>?_⟩
        · simp only[List.size_toArray,List.length_append,List.length_take,List.length_drop,Array.length_toList]
          omega
        · have hxl:=hown.1
          have hlt:off+n*i.size<=cur.toList.length:=by rw[Array.length_toList];omega
          have htl:(cur.toList.take (off+n*i.size)).length=off+n*i.size:=by rw[List.length_take];omega
          rw[List.getElem?_toArray,List.append_assoc]
          by_cases hj:j<xs.length
          · rw[List.getElem?_append_left hj] at hu
            rw[List.getElem?_append_left (by rw[htl];omega),List.getElem?_take_of_lt (by omega)]
            simpa using hr j u hu
          · rw[List.getElem?_append_right (by omega)] at hu
            have hjn:=(List.getElem?_eq_some_iff.1 hu).1
            rw[List.getElem?_append_right (by rw[htl];omega),htl,List.getElem?_append_left (by omega)]
            rw[<-hu];congr 1;omega
      · exact⟨rfl,rfl,rfl,by simp,λk _ hk=>setRow_other w g k _ (λe=>hk (by simp[Value.ownBlock,e]))⟩
    · obtain⟨v',w',r,r1,r2⟩:=run_append_arg_grows (P:=P) w t ty e i z size bytes ht hi hz hsize hby hzs hsz ⟨g,off,none⟩ n cap xs hown.1 (λj u hu=>by
        have:(⟨g,off,none⟩:Addr).add j=⟨g,off+j,none⟩:=by
          unfold Addr.add
          by_cases h:j=0
          · subst h;simp
          · simp[h]
        rw[this];exact hown.cell hu) a m c news hl hnews (by omega) h63 hbytes
      refine⟨v',w',r,Sl.of_row r1,⟨r2.os,r2.tape,r2.output,r2.size,λk hk _=>r2.block k hk (by simp)⟩,?_⟩
      rcases r1.2 with ⟨rfl,h0⟩|⟨g',cap',cur',rfl,hb,_⟩
      · omega
      · exact .inr ⟨g',rfl,hb⟩
theorem step_append_sl {P:Program}{ops:Array Oper}{o:Oper}{a:Act}{w:World}{K:Act->World->Prop}{Q:Exit->Act->World->Prop}{E:Prop}(hg:o.guard=none)(s x:Operand)(t:TypeId)(ho:o.op=Op.call {callee:=Callee.builtin Builtin.append,args:=#[s,x],argTypes:=#[t,t]})(e:TypeId)(i:TypeInfo)(z:Value)(size bytes:Nat)(ht:P.underlying t=some (.slice e))(hi:P.info? e=some i)(hz:i.zero=some z)(hsize:i.size=size)(hby:i.bytes=bytes)(hzs:z.cells.size=size)(hsz:0<size)(v:Value)(n:Nat)(xs:List Value)(hs:a.eval s=v)(hown:Sl w e size v n xs)(ad:Addr)(m c:Nat)(news:List Value)(hx:a.eval x=.slice (some ad) m c)(hl:news.length=m*size)(hnews:∀j u,news[j]? =some u->w.cell? (ad.add j)=some u)(h1:∀u∈news,u.oneCell'=true)(h63:n+m<=maxLen)(hbytes:(n+m)*bytes<=140737488355328)(hK:∀v' w',Sl w' e size v' (n+m) (xs++news)->w.grownBy w' v.ownBlock->(v'.ownBlock=v.ownBlock\/∃g,v'.ownBlock=some g/\w.heap.size<=g)->K (a.put o.dst v') w'):
    if Region.wanted o (yielded ops a.tmps)=true then Oper.wp P o a w K Q else E:=by
  have hw:Region.wanted o (yielded ops a.tmps)=true:=by simp[Region.wanted,hg]
  rw[if_pos hw]
  obtain⟨v',w',hr,h2,h3,h5⟩:=run_append_sl (P:=P) w t o.type e i z size bytes ht hi hz hsize hby hzs hsz v n xs hown ad m c news hl hnews h1 h63 hbytes
  unfold Oper.wp execOp
  simp only[ho,resolve,invoke,builtin,Sem.run_bind,Sem.run_pure,Result.andThen_ok,List.map_toArray,List.map_cons,List.map_nil,hs,hx,hr]
  exact hK v' w' h2 h3 h5
theorem wpList_append_sl {P:Program}(w:World){ops:Array Oper}{rest:List Oper}{o:Oper}{a:Act}{Q:Exit->Act->World->Prop}(hgd:o.guard=none)(s x:Operand)(t:TypeId)(ho:o.op=.call {callee:=.builtin .append,args:=#[s,x],argTypes:=#[t,t]})(e:TypeId)(i:TypeInfo)(z:Value)(size bytes:Nat)(ht:P.underlying t=some (.slice e))(hi:P.info? e=some i)(hz:i.zero=some z)(hsize:i.size=size)(hby:i.bytes=bytes)(hzs:z.cells.size=size)(hsz:0<size)(v:Value)(n:Nat)(xs:List Value)(hs:a.eval s=v)(hown:Sl w e size v n xs)(ad:Addr)(m c:Nat)(news:List Value)(hx:a.eval x=.slice (some ad) m c)(hl:news.length=m*size)(hnews:∀j u,news[j]? =some u->w.cell? (ad.add j)=some u)(h1:∀u∈news,u.oneCell'=true)(h63:n+m<=maxLen)(hbytes:(n+m)*bytes<=140737488355328)(h:∀v' w',Sl w' e size v' (n+m) (xs++news)->w.grownBy w' v.ownBlock->(v'.ownBlock=v.ownBlock\/∃g,v'.ownBlock=some g/\w.heap.size<=g)->wpList P ops Q rest (a.put o.dst v') w'):wpList P ops Q (o::rest) a w:=by
  refine wpList_plain hgd λK hK=>?_
  obtain⟨v',w',hr,h2,h3,h5⟩:=run_append_sl (P:=P) w t o.type e i z size bytes ht hi hz hsize hby hzs hsz v n xs hown ad m c news hl hnews h1 h63 hbytes
  unfold Oper.wp execOp
  simp only[ho,resolve,invoke,builtin,Sem.run_bind,Sem.run_pure,Result.andThen_ok,List.map_toArray,List.map_cons,List.map_nil,hs,hx,hr]
  exact hK _ _ (h v' w' h2 h3 h5)
theorem grown_any {w w':World}(h:w.grownBy w' none)(row:Option Nat):w.grownBy w' row:=⟨h.os,h.tape,h.output,h.size,λk hk _=>h.block k hk (by simp)⟩
theorem cell_drew (w:World)(a:Addr):w.drew.cell? a=w.cell? a:=rfl
theorem Sl.mkd {w:World}{e:TypeId}{size n:Nat}{v:Value}{xs:List Value}(h:Sl w e size v n xs)(o:Obj):Sl (w.alloc o).drew e size v n xs:=h.mk o
theorem drop_sl {w:World}{e:TypeId}{g off cap n:Nat}{x0 x1 x2:Value}{xs:List Value}(h:Sl w e 3 (.slice (some ⟨g,off,none⟩) (n+1) cap) (n+1) (x0::x1::x2::xs))(z0 z1 z2:Value):
    Sl (((w.setCell ⟨g,off,none⟩ z0).setCell ⟨g,off+1,none⟩ z1).setCell ⟨g,off+2,none⟩ z2) e 3 (.slice (some ⟨g,if cap-1=0 then off else off+3,none⟩) n (cap-1)) n xs:=by
  have h1:=((h.set 0 z0).set 1 z1).set 2 z2
  have h2:=h1.tail (k:=1) (by omega) (off':=off+3) (.inl (by omega))
  simpa using h2
theorem drop_world {w W:World}{yb i g:Nat}{t e:TypeId}{cs:Array Value}{v':Value}{n:Nat}{xs:List Value}(hB:Bx w yb t cs)(hS:Sl W e 3 v' n xs)(hg:w.grownBy W (some g))(hne:g≠yb)(hv:v'.ownBlock=some g)(o:Obj):
    Bx ((W.setCell ⟨yb,i,none⟩ v').alloc o).drew yb t (cs.setIfInBounds i v')/\Sl ((W.setCell ⟨yb,i,none⟩ v').alloc o).drew e 3 v' n xs/\Only w ((W.setCell ⟨yb,i,none⟩ v').alloc o).drew (λk=>k=yb\/some g=some k):=by
  refine⟨((hB.grown hg (by simpa using hne.symm)).set i v').mkd o,(hS.grown (grown_set _ _ _ _) (λk hk e=>?_)).mkd o,?_⟩
  · rw[hv] at hk
    cases hk;cases e;exact hne rfl
  · refine Only.trans (Only.of_grown hg λk h=>.inr h) (S':=λk=>k=yb) ?_ λk h=>.inl (.inl h)
    exact Only.trans (Only.of_grown (grown_set W yb i v') (S:=λk=>k=yb) λk h=>by cases h;rfl) (S':=λ_=>False) (Only.of_below (below_new_drew _ _)) λk h=>h.elim
theorem grown3 (w:World)(g a b c:Nat)(x y z:Value):w.grownBy (((w.setCell ⟨g,a,none⟩ x).setCell ⟨g,b,none⟩ y).setCell ⟨g,c,none⟩ z) (some g):=((grown_set w g a x).trans (grown_set _ g b y)).trans (grown_set _ g c z)
theorem Sl.ne {w:World}{e t:TypeId}{size n b:Nat}{v:Value}{xs:List Value}{cs:Array Value}(h:Sl w e size v n xs)(hB:Bx w b t cs)(het:e≠t):v.ownBlock≠some b:=λhv=>by
  obtain⟨cur,hc⟩:=h.typed hv
  unfold Bx at hB
  rw[hB] at hc
  injection hc with hc
  injection hc with _ h2 _
  exact het h2.symm
theorem Bx.ne {w:World}{s t:TypeId}{b c:Nat}{cs ds:Array Value}(h:Bx w c s ds)(hB:Bx w b t cs)(het:s≠t):c≠b:=λhv=>by
  subst hv
  unfold Bx at h hB
  rw[hB] at h
  injection h with h
  injection h with _ h2 _
  exact het h2.symm
theorem outAdd (yb i n:Nat)(t:TypeId)(o0 o1 o2:Int)(v:Value)(cs:Array Value)(xs:List Value)(w:World)(hB:Bx w yb t cs)(hv:cs[i]? =some v)(hS:Sl w 99 3 v n xs)(hne:v.ownBlock≠some yb)(hn:n<1048576000):
    Calls prog 205 #[.pointer (some ⟨yb,i,none⟩),.agg #[.int .i64 o0,.int .i64 o1,.int .i64 o2]] w λe w'=>e=.returned (.tuple #[])/\∃v',Bx w' yb t (cs.setIfInBounds i v')/\Sl w' 99 3 v' (n+1) (xs++[.int .i64 o0,.int .i64 o1,.int .i64 o2])/\(v'.ownBlock=v.ownBlock\/∃g,v'.ownBlock=some g/\w.heap.size<=g)/\Only w w' (λk=>k=yb\/v.ownBlock=some k):=by
  obtain⟨i0,hi,hz0,hz1,hz2⟩:=info_parts info_out
  obtain⟨oa,ocap,rfl⟩:=hS.form
  have q1:Hid (n+1<=maxLen):=by show _<=_;unfold maxLen;omega
  have q2:Hid ((n+1)*24<=140737488355328):=Nat.le_trans (Nat.mul_le_mul_right 24 (show n+1<=1048576000 by omega)) (by decide)
  have HB:Hid (Bx w yb t cs):=hB
  have HS:Hid (Sl w 99 3 (.slice oa n ocap) n xs):=hS
  have hlt:=hB.lt
  clear hB hS
  go_enter func205,ntmps205
  go_upto_region 1 with fail
  have HB1:Hid (Bx (w.alloc (.cells #[.int .i64 o0,.int .i64 o1,.int .i64 o2] 99)) yb t cs):=HB.out.mk _
  have HS1:Hid (Sl (w.alloc (.cells #[.int .i64 o0,.int .i64 o1,.int .i64 o2] 99)) 99 3 (.slice oa n ocap) n xs):=HS.out.mk _
  have HG1:Hid (w.grownBy (w.alloc (.cells #[.int .i64 o0,.int .i64 o1,.int .i64 o2] 99)) none):=World.grownBy_alloc _ _ _
  have d0:(w.alloc (.cells #[.int .i64 o0,.int .i64 o1,.int .i64 o2] 99)).cell? ⟨w.heap.size,0,none⟩=some (.int .i64 o0):=by simp
  have d1:(w.alloc (.cells #[.int .i64 o0,.int .i64 o1,.int .i64 o2] 99)).cell? ⟨w.heap.size,1,none⟩=some (.int .i64 o1):=by simp
  have d2:(w.alloc (.cells #[.int .i64 o0,.int .i64 o1,.int .i64 o2] 99)).cell? ⟨w.heap.size,2,none⟩=some (.int .i64 o2):=by simp
  generalize hw1:w.alloc (.cells #[.int .i64 o0,.int .i64 o1,.int .i64 o2] 99)=w1 at *
  clear hw1
  have c12:=HB1.out.cell hv
  have c12':∀o,(w1.alloc o).cell? ⟨yb,i,none⟩=some (.slice oa n ocap):=λo=>(HB1.out.mk o).cell hv
  go_region_law ((refine step_append_sl rfl _ _ 161 rfl _ i0 _ 3 24 underlying161 hi hz0 hz1 hz2 rfl (by decide) (.slice oa n ocap) _ _ rfl (Sl.mk HS1.out _) ⟨w1.heap.size,0,none⟩ 1 1 [.int .i64 o0,.int .i64 o1,.int .i64 o2] rfl rfl (cells_new w1 _ _) (by simp[Value.oneCell']) q1.out q2.out ?_;intro v3 w3 hown3 hg3 hloc3;obtain⟨a3,c3,rfl⟩:=hown3.form;have HB3:Hid (Bx w3 yb t cs):=Bx.grown (HB1.out.mkd _) hg3 (λe=>hne e.symm);have d12:=HB3.out.cell hv;have f3:=HB3.out.fr i;have O3:Hid (Sl w3 99 3 (.slice a3 (n+1) c3) (n+1) (xs++[.int .i64 o0,.int .i64 o1,.int .i64 o2])):=hown3;have G3:Hid (w.grownBy w3 (Value.slice oa n ocap).ownBlock):=(grown_any HG1.out _).trans ((World.grownBy_alloc w1 _ _).trans ⟨hg3.os,hg3.tape,hg3.output,hg3.size,hg3.block⟩);have L3:Hid ((Value.slice a3 (n+1) c3).ownBlock=(Value.slice oa n ocap).ownBlock\/∃g,(Value.slice a3 (n+1) c3).ownBlock=some g/\w.heap.size<=g):=hloc3.imp (λh=>h) (λ⟨g,h,hle⟩=>⟨g,h,Nat.le_trans HG1.out.size (Nat.le_trans (le_mkd w1 _) hle)⟩);clear hown3 hg3 hloc3))
  all_goals
    have nnb:(Value.slice a3 (n+1) c3).ownBlock≠some yb:=by
      rcases L3.out with h|⟨g,h,hg⟩
      · rw[h];exact hne
      · rw[h];intro e;cases e;omega
    refine bodyPost_end (v:=.tuple #[]) (results_none (by kernel_rfl) _ _ _) rfl ⟨rfl,_,HB3.out.set i _,Sl.grown O3.out (grown_set _ _ _ _) (λg hg e=>nnb (by rw[hg];exact e.symm)),L3.out,?_⟩
    exact Only.trans (Only.of_grown G3.out λk h=>.inr h) (Only.of_grown (grown_set _ _ _ _) (S:=λk=>k=yb) λk h=>by cases h;rfl) λk h=>.inl (.inl h)
theorem outFirst_some (yb i n:Nat)(t:TypeId)(x0 x1 x2:Int)(v:Value)(cs:Array Value)(xs:List Value)(w:World)(hB:Bx w yb t cs)(hv:cs[i]? =some v)(hS:Sl w 99 3 v (n+1) (.int .i64 x0::.int .i64 x1::.int .i64 x2::xs)):
    Calls prog 173 #[.pointer (some ⟨yb,i,none⟩)] w λe w'=>e=.returned (.tuple #[.agg #[.int .i64 x0,.int .i64 x1,.int .i64 x2],.bool true])/\Below w.heap.size w w':=by
  obtain⟨g,off,cap,rfl,hnc,hcm⟩:=hS.addr (by omega)
  have c0:=hB.cell hv
  have d0:w.cell? ⟨g,off,none⟩=some (.int .i64 x0):=hS.cell (j:=0) rfl
  have d1:w.cell? ⟨g,off+1,none⟩=some (.int .i64 x1):=hS.cell (j:=1) rfl
  have d2:w.cell? ⟨g,off+2,none⟩=some (.int .i64 x2):=hS.cell (j:=2) rfl
  have hl:=hB.lt
  have hg:g<w.heap.size:=hS.lt rfl
  have hne:((n:Int)+1==0)=false:=by simp;omega
  clear hB hS
  go_enter func173,ntmps173
  go_wp2
  refine bodyPost_ret (by simp[results,results173,go_sem];rfl) rfl ⟨by rfl,?_⟩
  exact below_new _ _
theorem outFirst_none (yb i:Nat)(t:TypeId)(v:Value)(cs:Array Value)(w:World)(hB:Bx w yb t cs)(hv:cs[i]? =some v)(hS:Sl w 99 3 v 0 []):
    Calls prog 173 #[.pointer (some ⟨yb,i,none⟩)] w λe w'=>e=.returned (.tuple #[.agg #[.int .i64 0,.int .i64 0,.int .i64 0],.bool false])/\Below w.heap.size w w':=by
  obtain⟨a,cap,rfl⟩:=hS.form
  have c0:=hB.cell hv
  have hl:=hB.lt
  clear hB hS
  go_enter func173,ntmps173
  go_wp2
  refine bodyPost_ret (by simp[results,results173,go_sem];rfl) rfl ⟨by rfl,?_⟩
  exact below_new _ _
theorem Only.set {w w1:World}{b i:Nat}{u:Value}{S:Nat->Prop}(h:Only w w1 S)(hb:S b\/w.heap.size<=b):Only w (w1.setCell ⟨b,i,none⟩ u) S:=
  h.trans (Only.of_grown (grown_set _ _ _ _) (S:=λk=>k=b) λk hk=>by cases hk;rfl) λk hk=>by subst hk;exact hb
theorem Only.drew {w w':World}{S:Nat->Prop}(h:Only w.drew w' S):Only w w' S:=⟨h.os,h.tape,h.output,h.size,h.block⟩
theorem Only.mono {w w':World}{S T:Nat->Prop}(h:Only w w' S)(hST:∀k,S k->T k):Only w w' T:=⟨h.os,h.tape,h.output,h.size,λk hk hn=>h.block k hk (λx=>hn (hST k x))⟩
theorem yEnd (yb n m:Nat)(id kind:Nat)(v:Value)(cs:Array Value)(xs:List Value)(w:World)(hB:Bx w yb 201 cs)(h14:cs[14]? =some (.int .i64 m))(h15:cs[15]? =some v)(hS:Sl w 99 3 v n xs)(hn:n<1048576000)(hm:m<1048576000):
    Calls prog 170 #[.pointer (some ⟨yb,0,none⟩),.int .i64 id,.int .i64 kind] w λe w'=>e=.returned (.tuple #[])/\∃v',Bx w' yb 201 ((cs.setIfInBounds 14 (.int .i64 ((m:Int)+1))).setIfInBounds 15 v')/\Sl w' 99 3 v' (n+1) (xs++[.int .i64 ((m:Int)+1),.int .i64 id,.int .i64 kind])/\(v'.ownBlock=v.ownBlock\/∃g,v'.ownBlock=some g/\w.heap.size<=g)/\Only w w' (λk=>k=yb\/v.ownBlock=some k):=by
  have c14:=hB.cell h14
  have f14:=hB.fr 14
  have hw:IntKind.i64.wrap ((m:Int)+1)=(m:Int)+1:=wrap_i64 (by omega) (by omega)
  have B1:=hB.set 14 (.int .i64 ((m:Int)+1))
  have hsz:15<cs.size:=(Array.getElem?_eq_some_iff.1 h15).1
  have k15:(cs.setIfInBounds 14 (.int .i64 ((m:Int)+1)))[15]? =some v:=by rw[Array.getElem?_setIfInBounds_ne (by decide)];exact h15
  have k14:(cs.setIfInBounds 14 (.int .i64 ((m:Int)+1)))[14]? =some (.int .i64 ((m:Int)+1)):=by rw[Array.getElem?_setIfInBounds];simp;omega
  have hne:=hS.ne hB (by decide)
  have S1:Sl (w.setCell ⟨yb,14,none⟩ (.int .i64 ((m:Int)+1))) 99 3 v n xs:=hS.grown (grown_set _ _ _ _) (λg hg e=>hne (by rw[hg];exact e.symm))
  have O1:Hid (Only w (w.setCell ⟨yb,14,none⟩ (.int .i64 ((m:Int)+1))) (λk=>k=yb\/v.ownBlock=some k)):=(Only.refl w _).set (.inl (.inl rfl))
  have hA:∀w2,w2.heap=(w.setCell ⟨yb,14,none⟩ (.int .i64 ((m:Int)+1))).heap->Calls prog 205 #[.pointer (some ⟨yb,15,none⟩),.agg #[.int .i64 ((m:Int)+1),.int .i64 id,.int .i64 kind]] w2 λe w'=>e=.returned (.tuple #[])/\∃v',Bx w' yb 201 ((cs.setIfInBounds 14 (.int .i64 ((m:Int)+1))).setIfInBounds 15 v')/\Sl w' 99 3 v' (n+1) (xs++[.int .i64 ((m:Int)+1),.int .i64 id,.int .i64 kind])/\(v'.ownBlock=v.ownBlock\/∃g,v'.ownBlock=some g/\w2.heap.size<=g)/\Only w2 w' (λk=>k=yb\/v.ownBlock=some k):=λw2 h2=>
    outAdd yb 15 n _ _ _ _ v _ xs w2 (by unfold Bx at B1 ⊢;rw[h2];exact B1) k15 (S1.kept λg _=>by rw[h2]) hne hn
  have hcell:(w.setCell ⟨yb,14,none⟩ (.int .i64 ((m:Int)+1))).cell? ⟨yb,14,none⟩=some (.int .i64 ((m:Int)+1)):=B1.cell k14
  clear hB hS S1 B1
  go_enter func170,ntmps170
  go_upto_region 1 with fail
  generalize hw1:w.setCell ⟨yb,14,none⟩ (.int .i64 ((m:Int)+1))=w1 at *
  have hs1:w1.heap.size=w.heap.size:=by rw[<-hw1];simp
  have hA1:=hA w1.drew rfl
  clear hw1 c14 f14 hA
  go_region_held_law (λw'=>w'.cell? ⟨yb,14,none⟩=some (.int .i64 ((m:Int)+1))) (go_keep) ((go_at_call 205;refine hA1.mono ?_;rintro e w3 ⟨rfl,v3,hB3,hS3,hL3,hO3⟩;have k3:w3.cell? ⟨yb,14,none⟩=some (.int .i64 ((m:Int)+1)):=hB3.cell (by rw[Array.getElem?_setIfInBounds_ne (by decide)];exact k14);have HB3:Hid _:=hB3;have HS3:Hid _:=hS3;have HL3:Hid _:=hL3;have HO3:Hid _:=hO3;clear hB3 hS3 hL3 hO3))
  all_goals
    refine bodyPost_end (v:=.tuple #[]) (results_none (by kernel_rfl) _ _ _) rfl ⟨rfl,_,HB3.out,HS3.out,?_,?_⟩
    · exact HL3.out.imp (λh=>h) (λ⟨g,h1,h2⟩=>⟨g,h1,by rw[<-hs1];exact h2⟩)
    · exact O1.out.trans (Only.drew HO3.out) λk h=>.inl h
end Go.Proofs.YtgamgomepdfgdaaGreat
