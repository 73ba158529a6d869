import Derived.Test.YtgamgomepdfgdaaGreatEM07
import Derived.Test.YtgamgomepdfgdaaGreatEM08
set_option maxRecDepth 100000
set_option maxHeartbeats 8000000
namespace Go.Proofs.YtgamgomepdfgdaaGreat
open Go.RowKit Go.Proofs.Tryz
def Rc.ok (r:Rc):Prop:=(r.kind=1/\r.lane<256/\Small r.edits\/r.kind=2\/r.kind=3\/r.kind=5\/r.kind=6\/r.kind=7\/r.kind=4)/\r.num<9223372036854775808
theorem Rc.body1 {r:Rc}(h:r.kind=1):r.body=subB r.lane r.edits r.edits.length++be 8 r.num:=by
  simp[Rc.body,h,subB]
theorem Rc.bodyN {r:Rc}(h:r.kind=2\/r.kind=5\/r.kind=6):r.body=be 8 r.num:=by
  rcases h with h|h|h<;>simp[Rc.body,h]
theorem Rc.bodyB {r:Rc}(h:r.kind=3\/r.kind=7):r.body=[]:=by
  rcases h with h|h<;>simp[Rc.body,h]
theorem Rc.body4 {r:Rc}(h:r.kind=4):r.body=be 1 (passN r.pass)++be 8 r.num:=by
  simp[Rc.body,h,passN]
theorem Rc.bytes_eq (r:Rc):r.bytes=recB r.kind r.body:=rfl
theorem Rc.kind_lt {r:Rc}(h:r.ok):r.kind<256:=by
  rcases h.1 with h|h|h|h|h|h|h
  · omega
  all_goals omega
theorem Rc.body_lt {r:Rc}(h:r.ok):r.body.length<1000:=by
  rcases h.1 with ⟨h,_,hs⟩|h|h|h|h|h|h
  · have:=subB_len hs r.lane r.edits.length
    rw[Rc.body1 h,List.length_append,be_len];omega
  · rw[Rc.bodyN (.inl h),be_len];decide
  · rw[Rc.bodyB (.inl h)];decide
  · rw[Rc.bodyN (.inr (.inl h)),be_len];decide
  · rw[Rc.bodyN (.inr (.inr h)),be_len];decide
  · rw[Rc.bodyB (.inr h)];decide
  · rw[Rc.body4 h,List.length_append,be_len,be_len];decide
def RecQ (r:Rc):BackQ:=λB W l ev i p q=>(p=if r.kind=4 then r.pass else false)/\
  ((r.kind=1/\l=r.lane/\i=r.num/\q=0/\∃g,ev=.slice (some ⟨g,0,none⟩) r.edits.length r.edits.length/\B<=g/\Half W g r.edits.length r.edits.length r.edits)\/
   (ev=.slice none 0 0/\l=0/\i=(if r.kind=2 then r.num else 0)/\q=(if r.kind=4\/r.kind=5\/r.kind=6 then r.num else 0)/\r.kind≠1))
theorem RecQ.set (r:Rc):∀B W b o u l ev i p q,b<B->RecQ r B W l ev i p q->RecQ r B (W.setCell ⟨b,o,none⟩ u) l ev i p q:=by
  rintro B W b o u l ev i p q hb ⟨hp,⟨h1,h2,h3,h4,g,h5,h6,h7⟩|h⟩
  · exact⟨hp,.inl ⟨h1,h2,h3,h4,g,h5,h6,h7.grown (grown_set _ _ _ _) (by omega)⟩⟩
  · exact⟨hp,.inr h⟩
theorem back_rec (r:Rc)(h:r.ok):BackTo r.kind r.body (RecQ r):=by
  refine⟨λW u hV=>?_,RecQ.set r⟩
  have num:(r.kind=2\/r.kind=5\/r.kind=6)->Calls prog 166 #[.int .i64 r.kind,u] W λe W'=>(∃(l:Nat) (ea:Option Addr) (en ec i:Nat) (p:Bool) (q:Nat),e=.returned (.agg #[.int .i64 r.kind,.int .i64 l,.slice ea en ec,.int .i64 i,.bool p,.int .i64 q])/\RecQ r W.heap.size W' l (.slice ea en ec) i p q)/\Below W.heap.size W W':=λhk=>by
    rw[Rc.bodyN hk] at hV
    refine(back_num r.kind r.num u W hk h.2 hV).mono ?_
    rintro e W' ⟨rfl,hb⟩
    refine⟨⟨0,none,0,0,if r.kind=2 then r.num else 0,false,if r.kind=2 then 0 else r.num,?_,?_,.inr ⟨rfl,rfl,rfl,?_,by omega⟩⟩,hb⟩
    · by_cases h2:r.kind=2<;>simp[h2]
    · rcases hk with hk|hk|hk<;>simp[hk]
    · rcases hk with hk|hk|hk<;>simp[hk]
  have bare:(r.kind=3\/r.kind=7)->Calls prog 166 #[.int .i64 r.kind,u] W λe W'=>(∃(l:Nat) (ea:Option Addr) (en ec i:Nat) (p:Bool) (q:Nat),e=.returned (.agg #[.int .i64 r.kind,.int .i64 l,.slice ea en ec,.int .i64 i,.bool p,.int .i64 q])/\RecQ r W.heap.size W' l (.slice ea en ec) i p q)/\Below W.heap.size W W':=λhk=>by
    refine(back_bare r.kind u W hk hV.form).mono ?_
    rintro e W' ⟨rfl,hb⟩
    exact⟨⟨0,none,0,0,0,false,0,rfl,by rcases hk with hk|hk<;>simp[hk],.inr ⟨rfl,rfl,by rcases hk with hk|hk<;>simp[hk],by rcases hk with hk|hk<;>simp[hk],by omega⟩⟩,hb⟩
  rcases h.1 with ⟨hk,hl,hs⟩|hk|hk|hk|hk|hk|hk
  · rw[Rc.body1 hk] at hV
    rw[hk]
    refine(back_submit r.lane r.num r.edits u W hl h.2 hs hV).mono ?_
    rintro e W' ⟨⟨g,rfl,hg,hH⟩,hb⟩
    exact⟨⟨r.lane,some ⟨g,0,none⟩,r.edits.length,r.edits.length,r.num,false,0,rfl,by simp[hk],.inl ⟨hk,rfl,rfl,rfl,g,rfl,hg,hH⟩⟩,hb⟩
  · exact num (.inl hk)
  · exact bare (.inl hk)
  · exact num (.inr (.inl hk))
  · exact num (.inr (.inr hk))
  · exact bare (.inr hk)
  · rw[Rc.body4 hk] at hV
    rw[hk]
    refine(back_ans r.num r.pass u W h.2 hV).mono ?_
    rintro e W' ⟨rfl,hb⟩
    exact⟨⟨0,none,0,0,0,r.pass,r.num,rfl,by simp[hk],.inr ⟨rfl,rfl,by simp[hk],by simp[hk],by omega⟩⟩,hb⟩
def progR (r:Rc)(ea:Option Addr)(en ec:Nat):Value:=
  .agg #[.int .i64 r.kind,.int .i64 r.lane,.slice ea en ec,.int .i64 (if r.kind=1\/r.kind=2 then r.num else 0:Nat),.bool (if r.kind=4 then r.pass else false),.int .i64 (if r.kind=4\/r.kind=5\/r.kind=6 then r.num else 0:Nat)]
def EdsIn (w:World)(r:Rc)(ea:Option Addr)(en:Nat):Prop:=
  r.kind=1->∃b off,ea=some ⟨b,off,none⟩/\en=r.edits.length/\b<w.heap.size/\(∀i (h:i<r.edits.length),w.cell? ⟨b,off+i*3,none⟩=some (.string r.edits[i].1))/\(∀i (h:i<r.edits.length),w.cell? ⟨b,off+i*3+1,none⟩=some (.string r.edits[i].2.1))/\(∀i (h:i<r.edits.length),w.cell? ⟨b,off+i*3+2,none⟩=some (.string r.edits[i].2.2))
theorem prog_bytes (r:Rc)(h:r.ok)(ea:Option Addr)(en ec:Nat)(w:World)(hE:EdsIn w r ea en):
    Calls prog 112 #[progR r ea en ec] w λe w'=>∃v',e=.returned v'/\Fresh w w' v' r.bytes:=by
  refine jbytes_of r.kind r.lane _ _ _ ea en ec r.body _ w (Rc.kind_lt h) (Rc.body_lt h) rfl ?_
  intro w' hb
  rcases h.1 with ⟨hk,hl,hs⟩|hk|hk|hk|hk|hk|hk
  · obtain⟨b,off,rfl,rfl,hlt,e0,e1,e2⟩:=hE hk
    rw[hk]
    exact jbody_submit r.lane _ _ _ r.edits b off ec w' hl hs (Nat.lt_of_lt_of_le hlt hb.size) (λi hi=>jcell_after hb (e0 i hi)) (λi hi=>jcell_after hb (e1 i hi)) (λi hi=>jcell_after hb (e2 i hi)) r.body (by rw[Rc.body1 hk];simp)
  · rw[Rc.bodyN (.inl hk)]
    exact jbody_num r.kind r.lane _ _ _ ea en ec w' (.inl hk) r.num (by simp[hk])
  · rw[Rc.bodyB (.inl hk)]
    exact jbody_bare r.kind r.lane _ _ _ ea en ec w' (.inl hk)
  · rw[Rc.bodyN (.inr (.inl hk))]
    exact jbody_num r.kind r.lane _ _ _ ea en ec w' (.inr (.inl hk)) r.num (by simp[hk])
  · rw[Rc.bodyN (.inr (.inr hk))]
    exact jbody_num r.kind r.lane _ _ _ ea en ec w' (.inr (.inr hk)) r.num (by simp[hk])
  · rw[Rc.bodyB (.inr hk)]
    exact jbody_bare r.kind r.lane _ _ _ ea en ec w' (.inr hk)
  · have:=jbody_ans r.lane 0 r.num r.pass ea en ec w' r.body (Rc.body4 hk)
    simpa[hk] using this
structure Cfg where
  lanes:Nat
  age:Nat
  batch:Nat
  window:Nat
  retries:Nat
  deadline:Nat
  queue:Nat
def Cfg.cells (c:Cfg):List Value:=[.int .i64 c.lanes,.int .i64 c.age,.int .i64 c.batch,.int .i64 c.window,.int .i64 c.retries,.int .i64 c.deadline,.int .i64 c.queue]
def Cfg.Ok (c:Cfg):Prop:=(1<=c.lanes/\c.lanes<=4)/\(1<=c.age/\c.age<=8)/\(1<=c.batch/\c.batch<=8)/\(1<=c.window/\c.window<=4)/\c.retries<=3/\(1<=c.deadline/\c.deadline<=100)/\(1<=c.queue/\c.queue<=16)
structure Ch where
  id:Nat
  lane:Nat
  passed:Nat
  ord:Nat
  edits:List Ed
def oc:Nat->List (Nat×Nat)->List Value
  |_,[]=>[]
  |k,o::l=>[.int .i64 ((k:Int)+1),.int .i64 o.1,.int .i64 o.2]++oc (k+1) l
theorem oc_snoc:∀(k:Nat) (l:List (Nat×Nat))(o:Nat×Nat),oc k (l++[o])=oc k l++[.int .i64 (((k+l.length:Nat):Int)+1),.int .i64 o.1,.int .i64 o.2]
  |k,[],o=>by simp[oc]
  |k,x::l,o=>by
    rw[List.cons_append,oc,oc_snoc (k+1) l o,oc,List.append_assoc,List.length_cons]
    have:k+1+l.length=k+(l.length+1):=by omega
    rw[this]
abbrev Pw:=Ch×Value
def cP (age:Nat)(x:Pw):List Value:=[.int .i64 x.1.id,.int .i64 x.1.lane,.int .i64 x.1.passed,.int .i64 age,.int .i64 x.1.ord,x.2]
theorem info_pw:(prog.info? 193).map (λi=>(i.zero,i.size,i.bytes))=some (some (.agg #[.int .i64 0,.int .i64 0,.int .i64 0,.int .i64 0,.int .i64 0,.slice none 0 0]),6,64):=by kernel_rfl
theorem Sl.elems {w:World}{e:TypeId}{g off cap n age:Nat}{q:List Pw}(h:Sl w e 6 (.slice (some ⟨g,off,none⟩) n cap) n (q.flatMap (cP age))){i:Nat}(hi:i<q.length):
    w.cell? ⟨g,off+i*6,none⟩=some (.int .i64 q[i].1.id)/\w.cell? ⟨g,off+i*6+1,none⟩=some (.int .i64 q[i].1.lane)/\w.cell? ⟨g,off+i*6+2,none⟩=some (.int .i64 q[i].1.passed)/\w.cell? ⟨g,off+i*6+3,none⟩=some (.int .i64 age)/\w.cell? ⟨g,off+i*6+4,none⟩=some (.int .i64 q[i].1.ord)/\w.cell? ⟨g,off+i*6+5,none⟩=some q[i].2:=by
  have k:∀j (u:Value),j<6->(cP age q[i])[j]? =some u->w.cell? ⟨g,off+i*6+j,none⟩=some u:=λj u hj hu=>by
    have:=h.cell (j:=i*6+j) (u:=u) (by rw[flat_get (cP age) 6 (λ_=>rfl) q i j hi hj];exact hu)
    rw[Nat.add_assoc];exact this
  exact⟨k 0 _ (by decide) rfl,k 1 _ (by decide) rfl,k 2 _ (by decide) rfl,k 3 _ (by decide) rfl,k 4 _ (by decide) rfl,k 5 _ (by decide) rfl⟩
def FoundZ (id:Int)(q:List Pw)(r:Int):Prop:=(r=-1/\∀x∈q,(x.1.id:Int)≠id)\/∃k:Nat,r=k/\∃h:k<q.length,(q[k].1.id:Int)=id/\∀j (hj:j<k),((q[j]'(by omega)).1.id:Int)≠id
def FoundAt (id:Nat)(q:List Pw)(r:Int):Prop:=(r=-1/\∀x∈q,x.1.id≠id)\/∃k:Nat,r=k/\∃h:k<q.length,q[k].1.id=id/\∀j (hj:j<k),(q[j]'(by omega)).1.id≠id
theorem cl_waits (age bk:Nat)(id i l p o:Int)(ea:Option Addr)(en ec:Nat)(w:World)(hq:w.cell? ⟨bk,0,none⟩=some (.int .i64 id))(hb:bk<w.heap.size):
    Calls prog 196 #[.agg #[.int .i64 i,.int .i64 l,.int .i64 p,.int .i64 age,.int .i64 o,.slice ea en ec],.pointer (some ⟨bk,0,none⟩)] w λe w'=>e=.returned (.bool (i==id))/\Below w.heap.size w w':=by
  go_enter func196,ntmps196
  go_wp2
  go_ret
  exact⟨rfl,below_new _ _⟩
theorem cl_withdraw (age id bk:Nat)(i l p o:Int)(ea:Option Addr)(en ec:Nat)(w:World)(hq:w.cell? ⟨bk,0,none⟩=some (.int .i64 id))(hb:bk<w.heap.size):
    Calls prog 169 #[.agg #[.int .i64 i,.int .i64 l,.int .i64 p,.int .i64 age,.int .i64 o,.slice ea en ec],.pointer (some ⟨bk,0,none⟩)] w λe w'=>e=.returned (.bool (i==(id:Int)))/\Below w.heap.size w w':=by
  go_enter func169,ntmps169
  go_wp2
  go_ret
  exact⟨rfl,below_new _ _⟩
theorem index_waits (q:List Pw)(age g off cap bk:Nat)(id:Int)(w:World)(hS:Sl w 193 6 (.slice (some ⟨g,off,none⟩) q.length cap) q.length (q.flatMap (cP age)))(hsl:∀x∈q,IsSl x.2)(hq:w.cell? ⟨bk,0,none⟩=some (.int .i64 id))(hn:q.length<=16):
    Calls prog 204 #[.slice (some ⟨g,off,none⟩) q.length cap,.func (.func 196) #[] #[.pointer (some ⟨bk,0,none⟩)]] w λe w'=>(∃r:Int,e=.returned (.int .i64 r)/\FoundZ id q r)/\Below w.heap.size w w':=by
  have HS:Hid _:=hS
  have hbk:=jcell_lt hq
  clear hS
  go_enter func204,ntmps204
  go_wp2_with fail
  go_loopw [8] (λi wr=>∃k:Nat,k<=q.length/\i=.int .i64 k/\Below w.heap.size w wr/\Hid (∀j (h:j<k) (h':j<q.length),(q[j].1.id:Int)≠id)) (λi _=>q.length-(intOf i).toNat)
  case atStart=>exact⟨0,Nat.zero_le _,rfl,Below.refl _ _,λj h=>by omega⟩
  case round=>
    obtain⟨k,hk,rfl,hb,hs⟩:=hrel
    have HB:Hid (Below w.heap.size w wr):=hb
    have gq:wr.cell? ⟨bk,0,none⟩=some (.int .i64 id):=jcell_after hb hq
    have gk:bk<wr.heap.size:=Nat.lt_of_lt_of_le hbk hb.size
    by_cases hlk:k<q.length
    · obtain⟨d0,d1,d2,d3,d4,d5⟩:=(Sl.later HS.out hb).elems hlk
      obtain⟨ea,en,ec,he⟩:=hsl _ (List.getElem_mem hlk)
      have hc:=cl_waits age bk id q[k].1.id q[k].1.lane q[k].1.passed q[k].1.ord ea en ec wr gq gk
      rw[he] at d5
      have Hy:Hid ((q[k].1.id:Int)=id->FoundZ id q (k:Int)):=λh=>.inr ⟨k,rfl,hlk,h,λj hj=>hs.out j hj (by omega)⟩
      have Hn:Hid ((q[k].1.id:Int)≠id->∀j (h:j<k+1) (h':j<q.length),(q[j].1.id:Int)≠id):=λh j hj hj'=>by
        by_cases e:j=k
        · subst e;exact h
        · exact hs.out j (by omega) hj'
      generalize q[k].1.id=a0 at *
      generalize q[k].1.lane=a1 at *
      generalize q[k].1.passed=a2 at *
      generalize q[k].1.ord=a3 at *
      clear he hb hs
      by_cases hid:(a0:Int)=id
      · subst hid
        go_wp2_with fail
        go_fit hc
        rintro e w' ⟨rfl,hb1⟩
        go_wp2_with fail
        go_ret
        exact⟨⟨k,rfl,by first|exact Hy.out rfl|exact Hy.out trivial⟩,HB.out.trans (hb1.mono HB.out.size)⟩
      · have hne:((a0:Int)==id)=false:=by simpa using hid
        rw[hne] at hc
        go_wp2_with fail
        go_fit hc
        rintro e w' ⟨rfl,hb1⟩
        go_wp2_with fail
        exact⟨⟨k+1,hlk,by go_num,HB.out.trans (hb1.mono HB.out.size),Hn.out hid⟩,by simp[intOf];omega⟩
    · go_wp2_with fail
      go_ret
      refine⟨⟨-1,rfl,.inl ⟨rfl,λx hx=>?_⟩⟩,HB.out⟩
      obtain⟨j,hj,rfl⟩:=List.mem_iff_getElem.1 hx
      exact hs.out j (by omega) hj
theorem index_withdraw (q:List Pw)(age id g off cap bk:Nat)(w:World)(hS:Sl w 193 6 (.slice (some ⟨g,off,none⟩) q.length cap) q.length (q.flatMap (cP age)))(hsl:∀x∈q,IsSl x.2)(hq:w.cell? ⟨bk,0,none⟩=some (.int .i64 id))(hn:q.length<=16):
    Calls prog 204 #[.slice (some ⟨g,off,none⟩) q.length cap,.func (.func 169) #[] #[.pointer (some ⟨bk,0,none⟩)]] w λe w'=>(∃r:Int,e=.returned (.int .i64 r)/\FoundAt id q r)/\Below w.heap.size w w':=by
  have HS:Hid _:=hS
  have hbk:=jcell_lt hq
  clear hS
  go_enter func204,ntmps204
  go_wp2_with fail
  go_loopw [8] (λi wr=>∃k:Nat,k<=q.length/\i=.int .i64 k/\Below w.heap.size w wr/\Hid (∀j (h:j<k) (h':j<q.length),q[j].1.id≠id)) (λi _=>q.length-(intOf i).toNat)
  case atStart=>exact⟨0,Nat.zero_le _,rfl,Below.refl _ _,λj h=>by omega⟩
  case round=>
    obtain⟨k,hk,rfl,hb,hs⟩:=hrel
    have HB:Hid (Below w.heap.size w wr):=hb
    have gq:wr.cell? ⟨bk,0,none⟩=some (.int .i64 id):=jcell_after hb hq
    have gk:bk<wr.heap.size:=Nat.lt_of_lt_of_le hbk hb.size
    by_cases hlk:k<q.length
    · obtain⟨d0,d1,d2,d3,d4,d5⟩:=(Sl.later HS.out hb).elems hlk
      obtain⟨ea,en,ec,he⟩:=hsl _ (List.getElem_mem hlk)
      have hc:=cl_withdraw age id bk q[k].1.id q[k].1.lane q[k].1.passed q[k].1.ord ea en ec wr gq gk
      rw[he] at d5
      have Hy:Hid (q[k].1.id=id->FoundAt id q (k:Int)):=λh=>.inr ⟨k,rfl,hlk,h,λj hj=>hs.out j hj (by omega)⟩
      have Hn:Hid (q[k].1.id≠id->∀j (h:j<k+1) (h':j<q.length),q[j].1.id≠id):=λh j hj hj'=>by
        by_cases e:j=k
        · subst e;exact h
        · exact hs.out j (by omega) hj'
      generalize q[k].1.id=a0 at *
      generalize q[k].1.lane=a1 at *
      generalize q[k].1.passed=a2 at *
      generalize q[k].1.ord=a3 at *
      clear he hb hs
      by_cases hid:a0=id
      · subst hid
        go_wp2_with fail
        go_fit hc
        rintro e w' ⟨rfl,hb1⟩
        go_wp2_with fail
        go_ret
        exact⟨⟨k,rfl,by first|exact Hy.out rfl|exact Hy.out trivial⟩,HB.out.trans (hb1.mono HB.out.size)⟩
      · have hne:((a0:Int)==(id:Int))=false:=by simp;omega
        rw[hne] at hc
        go_wp2_with fail
        go_fit hc
        rintro e w' ⟨rfl,hb1⟩
        go_wp2_with fail
        exact⟨⟨k+1,hlk,by go_num,HB.out.trans (hb1.mono HB.out.size),Hn.out hid⟩,by simp[intOf];omega⟩
    · go_wp2_with fail
      go_ret
      refine⟨⟨-1,rfl,.inl ⟨rfl,λx hx=>?_⟩⟩,HB.out⟩
      obtain⟨j,hj,rfl⟩:=List.mem_iff_getElem.1 hx
      exact hs.out j (by omega) hj
theorem index_no (f:Value)(a:Option Addr)(cap:Nat)(w:World):
    Calls prog 204 #[.slice a 0 cap,f] w λe w'=>e=.returned (.int .i64 (-1))/\w'=w:=by
  go_enter func204,ntmps204
  go_wp2
  go_loop [8] (λi=>i=.int .i64 0) (λ_=>0)
  case atStart=>rfl
  case round=>
    subst hrel
    go_wp2
    go_ret
    exact⟨rfl,rfl⟩
theorem index_any (q:List Pw)(age bk:Nat)(id:Int)(v:Value)(w:World)(hS:Sl w 193 6 v q.length (q.flatMap (cP age)))(hsl:∀x∈q,IsSl x.2)(hq:w.cell? ⟨bk,0,none⟩=some (.int .i64 id))(hn:q.length<=16):
    Calls prog 204 #[v,.func (.func 196) #[] #[.pointer (some ⟨bk,0,none⟩)]] w λe w'=>(∃r:Int,e=.returned (.int .i64 r)/\FoundZ id q r)/\Below w.heap.size w w':=by
  by_cases h0:q.length=0
  · obtain rfl:=List.eq_nil_of_length_eq_zero h0
    obtain⟨a,cap,rfl⟩:=hS.form
    refine(index_no _ a cap w).mono ?_
    rintro e w' ⟨rfl,rfl⟩
    exact⟨⟨-1,rfl,.inl ⟨rfl,by simp⟩⟩,Below.refl _ _⟩
  · obtain⟨g,off,cap,rfl,_⟩:=hS.addr (by omega)
    exact index_waits q age g off cap bk id w hS hsl hq hn
theorem contains_any (q:List Pw)(age bk:Nat)(id:Int)(v:Value)(w:World)(hS:Sl w 193 6 v q.length (q.flatMap (cP age)))(hsl:∀x∈q,IsSl x.2)(hq:w.cell? ⟨bk,0,none⟩=some (.int .i64 id))(hn:q.length<=16):
    Calls prog 195 #[v,.func (.func 196) #[] #[.pointer (some ⟨bk,0,none⟩)]] w λe w'=>RetIff e (∃x∈q,(x.1.id:Int)=id)/\Below w.heap.size w w':=by
  have hc:=index_any q age bk id v w hS hsl hq hn
  obtain⟨a,cap,rfl⟩:=hS.form
  have HF:Hid (∀r:Int,FoundZ id q r->(0<=r↔∃x∈q,(x.1.id:Int)=id)):=λr hr=>by
    rcases hr with ⟨rfl,h⟩|⟨k,rfl,hk,h1,h2⟩
    · exact⟨λh=>by omega,λ⟨x,hx,he⟩=>absurd he (h x hx)⟩
    · exact⟨λ_=>⟨q[k],List.getElem_mem hk,h1⟩,λ_=>by omega⟩
  generalize (∃x∈q,(x.1.id:Int)=id)=p at HF ⊢
  clear hS hq
  go_enter func195,ntmps195
  go_wp2_with fail
  go_fit hc
  rintro e w' ⟨⟨r,rfl,hr⟩,hb⟩
  have Hr:Hid (0<=r↔p):=HF.out r hr
  clear hr HF hc
  go_wp2_with fail
  go_ret
  exact⟨⟨decide (0<=r),rfl,by rw[decide_eq_true_eq];exact Hr.out⟩,hb⟩
theorem yWaits (q:List Pw)(age yb:Nat)(id:Int)(v:Value)(cs:Array Value)(w:World)(hB:Bx w yb 201 cs)(h9:cs[9]? =some v)(hS:Sl w 193 6 v q.length (q.flatMap (cP age)))(hsl:∀x∈q,IsSl x.2)(hn:q.length<=16):
    Calls prog 158 #[.pointer (some ⟨yb,0,none⟩),.int .i64 id] w λe w'=>RetIff e (∃x∈q,(x.1.id:Int)=id)/\Below w.heap.size w w':=by
  have hc:=contains_any q age w.heap.size id v (w.alloc (.cells #[.int .i64 id] 3)) (hS.mk _) hsl (by simp) hn
  obtain⟨a,cap,rfl⟩:=hS.form
  have c9:=(hB.mk (.cells #[.int .i64 id] 3)).cell h9
  generalize (∃x∈q,(x.1.id:Int)=id)=p at hc ⊢
  clear hS hB
  go_enter func158,ntmps158
  go_wp2_with fail
  go_fit hc
  rintro e w' ⟨⟨r,rfl,hr⟩,hb⟩
  have Hr:Hid (r=true↔p):=hr
  clear hr hc
  go_wp2_with fail
  go_ret
  exact⟨⟨r,rfl,Hr.out⟩,(below_new _ _).trans (hb.mono (by simp))⟩
end Go.Proofs.YtgamgomepdfgdaaGreat
