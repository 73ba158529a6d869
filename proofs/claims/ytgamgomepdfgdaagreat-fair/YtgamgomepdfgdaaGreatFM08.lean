import Derived.Test.YtgamgomepdfgdaaGreatFM06
set_option maxRecDepth 100000
set_option maxHeartbeats 8000000
namespace Go.Proofs.YtgamgomepdfgdaaGreat
open Go.RowKit Go.Proofs.Tryz
theorem row_form {w:World}{base:Nat}{e:TypeId}{size n:Nat}{v:Value}{xs:List Value}(h:w.ownsRow base e size v n xs):∃a cap,v=.slice a n cap:=by
  rcases h.2 with ⟨rfl,rfl⟩|⟨g',cap,cur,rfl,_,hh,_⟩
  · exact⟨_,_,rfl⟩
  · exact⟨_,_,rfl⟩
theorem run_append_none {P:Program}(w:World)(t ty e:TypeId)(i:TypeInfo)(ht:P.underlying t=some (.slice e))(hi:P.info? e=some i)(g n cap:Nat)(a:Option Addr)(c:Nat)(hn:n<=cap):
    (Builtin.append_ #[t,t] ty #[.slice (some ⟨g,0,none⟩) n cap,.slice a 0 c]).run P w=.ok (.slice (some ⟨g,0,none⟩) n cap) w:=by
  have hl:∀a,Sem.run P (loadCells a 0) w=.ok #[] w:=λa=>run_loadCells_list (P:=P) w a [] (by simp)
  cases a<;>simp[Builtin.append_,run_underlying ht,sizeOf,typeInfo,hi,Builtin.lenOf,Builtin.firstCells,hn,storeCells,hl]
theorem wpList_append_any {P:Program}(w:World){ops:Array Oper}{rest:List Oper}{o:Oper}{a:Act}{Q:Exit->Act->World->Prop}(hgd:o.guard=none)(s x:Operand)(t:TypeId)(ho:o.op=.call {callee:=.builtin .append,args:=#[s,x],argTypes:=#[t,t]})(base:Nat)(e:TypeId)(i:TypeInfo)(z:Value)(ht:P.underlying t=some (.slice e))(hi:P.info? e=some i)(hz:i.zero=some z)(hsize:i.size=1)(hby:i.bytes=1)(hzs:z.cells.size=1)(v:Value)(n:Nat)(xs:List Value)(hs:a.eval s=v)(hown:w.ownsRow base e 1 v n xs)(hpos:0<n)(base':Nat)(u:Value)(m:Nat)(news:List Value)(hx:a.eval x=u)(hsrc:w.ownsRow base' e 1 u m news)(h1:∀y∈news,y.oneCell'=true)(h63:n+m<=maxLen)(hbytes:(n+m)*1<=140737488355328)(hbase:base<=w.heap.size)(h:∀v' w',w'.ownsRow base e 1 v' (n+m) (xs++news)->w.grownBy w' v.ownBlock->(v'.ownBlock=v.ownBlock\/v'.ownBlock=some w.heap.size)->wpList P ops Q rest (a.put o.dst v') w'):wpList P ops Q (o::rest) a w:=by
  rcases hsrc.2 with ⟨rfl,rfl⟩|⟨g',cap',cur',rfl,hb',hg',hnc',hcm',hcs',ht'⟩
  · obtain rfl:news=[]:=List.eq_nil_of_length_eq_zero (by simpa using hsrc.1)
    rcases hown.2 with ⟨_,h0⟩|⟨g,cap,cur,rfl,hb,hg,hnc,hcm,hcs,htk⟩
    · omega
    refine wpList_plain hgd λK hK=>?_
    have hr:=run_append_none (P:=P) w t o.type e i ht hi g n cap none 0 hnc
    unfold Oper.wp execOp
    simp only[ho,resolve,invoke,builtin,Sem.run_bind,Sem.run_pure,Result.andThen_ok,List.map_toArray,List.map_cons,List.map_nil,hs,hx,hr]
    exact hK _ _ (h _ w (by simpa using hown) (World.grownBy.refl _ _) (.inl rfl))
  · exact wpList_append_own_at w hgd s x t ho base e i z 1 1 ht hi hz hsize hby hzs (by decide) v n xs hs hown ⟨g',0,none⟩ m cap' news hx (by simpa using hsrc.1) (hsrc.cells (g:=g') rfl) h1 h63 hbytes hbase λv' w' a1 a2 _ a4=>h v' w' a1 a2 a4
theorem jbytes_of (kind:Nat)(lane id num:Nat)(pass:Bool)(ea:Option Addr)(en ec:Nat)(body s:List UInt8)(w:World)(hk:kind<256)(hbl:body.length<1000)(hs:s=be 1 kind++be 4 body.length++body)(hB:Hid (∀w',Below w.heap.size w w'->Calls prog 159 #[.agg #[.int .i64 kind,.int .i64 lane,.slice ea en ec,.int .i64 id,.bool pass,.int .i64 num]] w' λe w''=>∃v',e=.returned v'/\Fresh w' w'' v' body)):
    Calls prog 112 #[.agg #[.int .i64 kind,.int .i64 lane,.slice ea en ec,.int .i64 id,.bool pass,.int .i64 num]] w λe w'=>∃v',e=.returned v'/\Fresh w w' v' (s++be 4 (adler s)):=by
  obtain⟨i0,hi,hz0,hz1,hz2⟩:=info_parts info_u8
  have hsl:s.length=5+body.length:=by rw[hs];exact recB_len
  go_enter func112,ntmps112
  go_wp2_with fail
  refine(hB.out _ (below_new w _)).mono ?_
  rintro e w2 ⟨vb,rfl,hF⟩
  obtain⟨ba,bcap,rfl⟩:=row_form hF.1
  have RB:Hid (w2.ownsRow (w.heap.size+1) 5 1 (.slice ba body.length bcap) body.length (bc body)):=by
    have:=hF.1
    show w2.ownsRow (w.heap.size+1) 5 1 (.slice ba body.length bcap) body.length (bc body)
    simpa using this
  have B2:Hid (Below w.heap.size w w2):=below_mk hF.2
  have c0:w2.cell? ⟨w.heap.size,0,none⟩=some (.int .i64 kind):=jcell_after hF.2 (by simp)
  have hK:=app8' kind hk (.slice none 0 0) [] w2.heap.size w2 (nil_row _ _) (Nat.le_refl _) (by decide)
  clear hF
  go_wp2_with (go_at_call 160;go_fit hK;rintro e w3 ⟨v3,rfl,h3⟩)
  have hL:=app32' body.length v3 ([]++be 1 kind) w2.heap.size w3 (Apped.row h3) (Apped.grown h3).size (by simp[be_len])
  have H3:Hid (App w2.heap.size w2 w3 (.slice none 0 0) v3 ([]++be 1 kind)):=h3
  clear h3 hK c0
  refine hL.mono ?_
  rintro e w4 ⟨v4,rfl,h4⟩
  have H4:Hid (App w2.heap.size w2 w4 (.slice none 0 0) v4 ([]++be 1 kind++be 4 body.length)):=Apped.trans H3.out h4
  have R4:Hid (w4.ownsRow (w.heap.size+1) 5 1 (.slice ba body.length bcap) body.length (bc body)):=World.ownsRow.kept RB.out (Apped.grown H4.out) (by simpa[Value.ownBlock] using Classical.em _)
  have P4:([]++be 1 kind++be 4 body.length:List UInt8).length=5:=by simp[be_len]
  have E5:Hid ([]++be 1 kind++be 4 body.length++body=s):=by
    show _=_
    rw[hs,List.nil_append]
  have q1:Hid (5+body.length<=maxLen):=by show _<=_;unfold maxLen;omega
  have q2:Hid ((5+body.length)*1<=140737488355328):=by show _<=_;omega
  have q3:Hid (w2.heap.size<=w4.heap.size):=(Apped.grown H4.out).size
  have r4:Hid (w4.ownsRow w2.heap.size 5 1 v4 5 (bc ([]++be 1 kind++be 4 body.length))):=by
    have:=Apped.row H4.out
    rwa [P4] at this
  have p4:(0:Nat)<5:=by decide
  clear hL h4 H3 RB hs
  go_wp2_with (at_builtin;refine wpList_append_any _ rfl _ _ _ rfl w2.heap.size _ i0 _ underlying114 hi hz0 hz1 hz2 rfl v4 5 _ rfl r4.out p4 (w.heap.size+1) (.slice ba body.length bcap) _ _ rfl R4.out (bc_one body) q1.out q2.out q3.out ?_;intro v5 w5 ho5 hg5 hl5;have H5:Hid (w5.ownsRow w2.heap.size 5 1 v5 (5+body.length) (bc ([]++be 1 kind++be 4 body.length)++bc body)):=ho5;have G5:Hid (w4.grownBy w5 v4.ownBlock/\(v5.ownBlock=v4.ownBlock\/v5.ownBlock=some w4.heap.size)):=⟨hg5,hl5⟩;clear ho5 hg5 hl5;go_frame)
  have A5:Hid (App w2.heap.size w2 w5 (.slice none 0 0) v5 s):=by
    refine Apped.trans H4.out ⟨?_,G5.out.1,?_⟩
    · have:=H5.out
      rwa [<-bc_append,E5.out,<-hsl] at this
    · rcases G5.out.2 with h|h
      · exact .inl h
      · exact .inr ⟨_,h,Nat.le_refl _⟩
  have hC:=csum_any s v5 w5 (BytesAt.of_row (Apped.row A5.out)) (by omega)
  have hN:=app32' (adler s) v5 s w2.heap.size w5 (Apped.row A5.out) (Apped.grown A5.out).size (by omega)
  clear H4 H5 G5 r4 R4 E5
  go_wp2_with (first
    |(go_at_call 162;go_fit hC;rintro e w' ⟨rfl,rfl⟩)
    |(go_at_call 161;go_fit hN;rintro e w6 ⟨v6,rfl,h6⟩))
  go_ret
  have A6:=Apped.trans A5.out h6
  refine⟨v6,rfl,row_low (Apped.row A6) B2.out.size,?_⟩
  have hg:=Apped.grown A6
  exact below_then B2.out ⟨hg.os,hg.tape,hg.output,hg.size,λk hk=>hg.block k hk (by simp[Value.ownBlock])⟩
def recB (kind:Nat)(body:List UInt8):List UInt8:=be 1 kind++be 4 body.length++body++be 4 (adler (be 1 kind++be 4 body.length++body))
theorem recB_len' (kind:Nat)(body:List UInt8):(recB kind body).length=9+body.length:=by
  rw[recB,List.length_append,recB_len,be_len];omega
def passN (p:Bool):Nat:=if p then 1 else 0
theorem verdict_any (p:Bool)(w:World):Calls prog 199 #[.bool p] w λe w'=>e=.returned (.int .u8 (passN p:Nat))/\w'=w:=by
  cases p
  all_goals
    go_enter func199,ntmps199
    go_wp2
    go_ret
    exact⟨rfl,rfl⟩
theorem jbody_ans (lane id num:Nat)(pass:Bool)(ea:Option Addr)(en ec:Nat)(w:World)(body:List UInt8)(hbody:body=be 1 (passN pass)++be 8 num):
    Calls prog 159 #[.agg #[.int .i64 4,.int .i64 lane,.slice ea en ec,.int .i64 id,.bool pass,.int .i64 num]] w λe w'=>∃v',e=.returned v'/\Fresh w w' v' body:=by
  have hp:passN pass<256:=by cases pass<;>decide
  have hv:=verdict_any pass
  have hc:Hid (∀o,Calls prog 160 #[.slice none 0 0,.int .u8 ((passN pass:Nat):Int)] (w.alloc o) λe w'=>∃v',e=.returned v'/\App (w.heap.size+1) (w.alloc o) w' (.slice none 0 0) v' ([]++be 1 (passN pass))):=λo=>app8' (passN pass) hp (.slice none 0 0) [] (w.heap.size+1) (w.alloc o) (nil_row _ _) (by simp) (by decide)
  have hsub:Hid (([]++be 1 (passN pass))++be 8 num=body):=by
    show _=_
    rw[hbody];simp
  have nw:Hid ((Value.slice none 0 0).ownBlock≠some w.heap.size):=by show _≠_;simp[Value.ownBlock]
  have L1:([]++be 1 (passN pass):List UInt8).length=1:=by simp[be_len]
  clear hbody
  generalize passN pass=pn at *
  go_enter func159,ntmps159
  go_wp2_with fail
  go_fit (hv _)
  rintro e w0 ⟨rfl,rfl⟩
  go_wp2_with fail
  go_fit (hc.out _)
  rintro e w1 ⟨v1,rfl,k1⟩
  have K1:Hid _:=k1
  have c5:w1.cell? ⟨w.heap.size,5,none⟩=some (.int .i64 num):=Apped.keeps k1 (by simp) nw.out
  have hI:=app64' num v1 ([]++be 1 pn) (w.heap.size+1) w1 (Apped.row k1) (Nat.le_trans (by simp) (Apped.grown k1).size) (by omega)
  clear k1 hc
  go_wp2_with fail
  go_fit hI
  rintro e w3 ⟨v3,rfl,k3⟩
  go_wp2_with fail
  go_ret
  refine⟨v3,rfl,?_⟩
  have:=Fresh.of (Apped.trans K1.out k3)
  rwa [hsub.out] at this
end Go.Proofs.YtgamgomepdfgdaaGreat
