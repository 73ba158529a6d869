import Derived.Test.YtgamgomepdfgdaaGreatEM16
import Derived.Test.YtgamgomepdfgdaaGreatEM17
import Derived.Test.YtgamgomepdfgdaaGreatEM18
import Derived.Test.YtgamgomepdfgdaaGreatEM19
set_option maxRecDepth 100000
set_option maxHeartbeats 8000000
namespace Go.Proofs.YtgamgomepdfgdaaGreat
open Go.RowKit Go.Proofs.Tryz
section
open Go.Lib
theorem info_chg:(prog.info? 273).map (λi=>(i.zero,i.size,i.bytes))=some (some (.agg #[.int .i64 0,.slice none 0 0]),2,32):=by kernel_rfl
def cwOf (y:Pw):Cw:=(y.1.cg,y.2)
def upP (y:Pw):Pw:=(y.1.up,y.2)
theorem tPick_none (yb:Nat)(cs:Array Value)(a:Option Addr)(cap:Nat)(w:World)(hB:Bx w yb 201 cs)(h9:cs[9]? =some (.slice a 0 cap)):
    Calls prog 207 #[ptr yb] w λe w'=>e=.returned (.bool false)/\w'=w:=by
  have c9:=hB.cell h9
  clear hB h9
  unfold ptr
  go_enter func207,ntmps207
  go_wp2_with fail
  go_ret
  exact⟨rfl,rfl⟩
theorem cells_new2 (w:World)(o:Obj)(cs:List Value)(t:TypeId):∀j u,cs[j]? =some u->((w.alloc o).alloc (.cells cs.toArray t)).cell? ((⟨w.heap.size+1,0,none⟩:Addr).add j)=some u:=by
  have e:w.heap.size+1=(w.alloc o).heap.size:=by simp
  rw[e]
  exact cells_new (w.alloc o) cs t
theorem q3' {w w':World}(h:Below w.heap.size w w')(o:Obj):w.heap.size<=(w'.alloc o).heap.size:=by
  have:=h.size
  simp;omega
theorem flat_up (age:Nat):∀(L:List Pw) (m:Nat) (h:m<L.length),(L.set m (upP L[m])).flatMap (cP age)=(L.flatMap (cP age)).set (m*6+2) (.int .i64 ((L[m].1.passed:Int)+1))
  |x::L,0,_=>by simp[cP,upP,Ch.up]
  |x::L,m+1,h=>by
    have ih:=flat_up age L m (by simpa using h)
    rw[List.set_cons_succ,List.flatMap_cons,List.flatMap_cons,List.getElem_cons_succ,ih,List.set_append_right _ _ (by simp[cP];omega)]
    congr 2
    simp[cP];omega
def upTo (l:List Pw)(m:Nat):List Pw:=(l.take m).map upP++l.drop m
theorem upTo_len (l:List Pw)(m:Nat):(upTo l m).length=l.length:=by
  simp[upTo];omega
theorem upTo_get (l:List Pw)(m:Nat)(h:m<l.length):(upTo l m)[m]'(by rw[upTo_len];exact h)=l[m]:=by
  simp only[upTo]
  rw[List.getElem_append_right (by simp;omega)]
  simp[Nat.min_eq_left (Nat.le_of_lt h)]
theorem upTo_succ (l:List Pw)(m:Nat)(h:m<l.length):(upTo l m).set m (upP l[m])=upTo l (m+1):=by
  have hl:((l.take m).map upP).length=m:=by simp;omega
  show ((l.take m).map upP++l.drop m).set m (upP l[m])=(l.take (m+1)).map upP++l.drop (m+1)
  rw[List.set_append_right _ _ (by omega),hl,Nat.sub_self,List.drop_eq_getElem_cons h,List.set_cons_zero,List.take_succ_eq_append_getElem h,List.map_append,List.append_assoc]
  rfl
theorem upTo_all (l:List Pw)(m:Nat)(h:l.length<=m):upTo l m=l.map upP:=by
  simp[upTo,List.take_of_length_le h,List.drop_eq_nil_of_le h]
theorem tPick {S:Nat->Prop}{yb mb n0:Nat}{c:Cfg}{s:Ts}{w:World}{q:List Pw}{sb:Nat}{qv ov:Value}{x:Xt}(h:YardIs w S yb mb n0 c s q sb qv ov x)(hI:s.Inv c)(hc:c.Ok)(hi:s.ids.length<1048576000)(hs:s.segs=[])(hq:s.queue≠[]):
    Calls prog 207 #[ptr yb] w λe w'=>e=.returned (.bool true)/\(∃q' qv' tv',YardIs w' (Plus S w) yb mb n0 c (s.pick c) q' sb qv' ov {x with tv:=tv'})/\OnlyT w w' S [201,210]:=by
  obtain⟨i0,hi0,hz0,hz1,hz2⟩:=info_parts info_chg
  obtain⟨q0,hp,hq0,hd,hrk,hrp⟩:=h.ranks hI hc
  obtain⟨H,hn⟩:=h.small hI hc hi
  obtain⟨qa,qcap,rfl⟩:=h.que.row.form
  have hpos:0<q.length:=by
    rw[h.qlen];exact List.length_pos_iff.2 hq
  have hR:=yByRank c.age ⟨hc.2.1.1,by have:=hc.2.1.2;omega⟩ q _ w h.que.row H hn q0 hp hd
  have HY:Hid (YardIs w S yb mb n0 c s q sb (.slice qa q.length qcap) ov x):=h
  have HR:Hid ((rkG (laneOf c.age) q0 1000).map Prod.fst=s.ranked c/\(rkG (laneOf c.age) q0 1000).Perm q):=⟨hrk,hrp⟩
  have hrl:Hid ((rkG (laneOf c.age) q0 1000).length=q.length):=hrp.length_eq
  have c2:=h.box.c 2 (.int .i64 c.batch)
  have c9:=h.box.c 9 (.slice qa q.length qcap)
  have hb1:=hc.2.2.1.1
  have hb8:=hc.2.2.1.2
  have hyl:=h.box.lt
  have q0':¬((q.length:Int)=0):=by omega
  have q1':((q.length:Int)==0)=false:=beq_false_of_ne q0'
  obtain⟨k,hk⟩:∃k,k=min c.batch q.length:=⟨_,rfl⟩
  have hmin:min (c.batch:Int) (q.length:Int)=(k:Int):=by
    rw[hk]
    by_cases hle:c.batch<=q.length
    · rw[Nat.min_eq_left hle,Int.min_eq_left (by omega)]
    · rw[Nat.min_eq_right (by omega),Int.min_eq_right (by omega)]
  have hkl:k<=q.length:=by rw[hk];exact Nat.min_le_right _ _
  have hk0:0<k:=by rw[hk];exact Nat.lt_min.2 ⟨by omega,hpos⟩
  have HK:Hid (k=min c.batch q.length):=hk
  generalize rkG (laneOf c.age) q0 1000=r at *
  clear h hp hq0 hd hrk hrp H hk
  unfold ptr
  go_enter func207,ntmps207
  go_wp2_with fail
  go_fit hR
  rintro e w1 ⟨⟨v1,rfl,hs1,hv1⟩,hb1'⟩
  obtain⟨g1,o1,cap1,rfl,hcap1,hcapm⟩:=hs1.addr hpos
  have hg1:w.heap.size<=g1:=hv1 hpos g1 rfl
  have HB1:Hid (Below w.heap.size w w1):=hb1'
  have HS1:Hid (Sl w1 193 6 (.slice (some ⟨g1,o1,none⟩) q.length cap1) q.length (r.flatMap (cP c.age))):=hs1
  have d2:=jcell_after hb1' c2
  clear hR hs1 hv1 hb1' c2 c9
  go_wp2_with fail
  have hsl:Hid (∀y∈r,IsSl y.2):=λy hy=>HY.out.sl y (HR.out.2.mem_iff.1 hy)
  have hrl':r.length=q.length:=hrl.out
  clear d2 hmin
  go_loopw [5,32] (λlv iv wr=>∃j:Nat,j<=k/\iv=.int .i64 j/\Hid (wr.ownsRow w1.heap.size 273 2 lv j (((r.take j).map cwOf).flatMap cC))/\Hid (Below w1.heap.size w1 wr)) (λ_ i _=>k-(intOf i).toNat)
  case atStart=>exact⟨0,Nat.zero_le _,rfl,World.ownsRow_nil _ _ _ _,Below.refl _ _⟩
  case round=>
    obtain⟨j,hj,rfl,hr,hb⟩:=hrel
    by_cases hlj:j<k
    · have hlr:j<r.length:=by omega
      have kk:∀i (u:Value),i<6->(cP c.age r[j])[i]? =some u->wr.cell? ⟨g1,o1+j*6+i,none⟩=some u:=λi u hi hu=>by
        have:=HS1.out.cell (j:=j*6+i) (u:=u) (by rw[flat_get (cP c.age) 6 (λ_=>rfl) r j i hlr hi];exact hu)
        rw[Nat.add_assoc];exact jcell_after hb.out this
      obtain⟨ea,en,ec,he⟩:=hsl.out _ (List.getElem_mem hlr)
      have d0:wr.cell? ⟨g1,o1+j*6,none⟩=some (.int .i64 r[j].1.id):=kk 0 _ (by decide) rfl
      have d1:=kk 1 (.int .i64 r[j].1.lane) (by decide) rfl
      have d2:=kk 2 (.int .i64 r[j].1.passed) (by decide) rfl
      have d3:=kk 3 (.int .i64 c.age) (by decide) rfl
      have d4:=kk 4 (.int .i64 r[j].1.ord) (by decide) rfl
      have d5:=kk 5 (.slice ea en ec) (by decide) (by rw[<-he];rfl)
      have HW:Hid (((r.take (j+1)).map cwOf).flatMap cC=((r.take j).map cwOf).flatMap cC++[.int .i64 r[j].1.id,.slice ea en ec]):=by
        show _=_
        rw[List.take_succ_eq_append_getElem hlr,List.map_append,List.flatMap_append];simp[cC,cwOf,Ch.cg,he]
      generalize r[j].1.id=x0 at *
      generalize r[j].1.lane=x1 at *
      generalize r[j].1.passed=x2 at *
      generalize r[j].1.ord=x4 at *
      clear he kk hrl'
      have q1:Hid (j+1<=maxLen):=by show _<=_;unfold maxLen;omega
      have q2:Hid ((j+1)*32<=140737488355328):=by show _<=_;omega
      have q3:Hid (∀o o',w1.heap.size<=((wr.alloc o).alloc o').heap.size):=λo o'=>by
        have:=hb.out.size
        show w1.heap.size<=_
        simp;omega
      go_wp2_with (at_builtin;refine wpList_append_own_at _ rfl (.tmp 36) (.tmp 43) _ rfl w1.heap.size _ i0 _ 2 32 underlying237 hi0 hz0 hz1 hz2 rfl (by decide) u5 _ _ rfl (World.ownsRow.alloc (World.ownsRow.alloc hr.out _) _) ⟨wr.heap.size+1,0,none⟩ 1 1 [.int .i64 x0,.slice ea en ec] rfl rfl (cells_new2 wr _ _ _) (by simp[Value.oneCell']) q1.out q2.out (q3.out _ _) ?_;intro v3 w3 hown3 hg3 hnil3 hloc3)
      refine⟨⟨j+1,hlj,by go_num,?_,?_⟩,by simp[intOf];omega⟩
      · show w3.ownsRow _ _ _ _ _ _
        rw[HW.out]
        exact hown3
      · exact((hb.out.alloc hb.out.size _).alloc (q3' hb.out _) _).grown hg3 (q3.out _ _) (λi hi=>(World.ownsRow.lt hr.out i hi).1)
    · obtain rfl:j=k:=by omega
      obtain⟨a5,c5,rfl⟩:=row_form hr.out
      have HRow:Hid (Sl wr 273 2 (.slice a5 j c5) j (((r.take j).map cwOf).flatMap cC)):=Sl.of_row hr.out
      have HNew:Hid (∀g,(Value.slice a5 j c5).ownBlock=some g->w1.heap.size<=g):=λg hg=>(World.ownsRow.lt hr.out g hg).1
      have HB2:Hid (Below w.heap.size w wr):=below_then HB1.out hb.out
      obtain⟨tl,zs,hrest⟩:=HY.out.rest
      have hzs:zs=[]:=by
        have:=hrest.train.snd
        rw[hs] at this
        exact List.map_eq_nil_iff.1 this
      subst hzs
      have hBA:Bx (wr.alloc (.cells (segCells (.slice a5 j c5) 0 0 (.pointer none)) 240)) yb 201 (yardCells c x s.begun s.now (.slice qa q.length qcap) sb s.outs.length ov):=(HY.out.box.later HB2.out).mk _
      have hTA:Sl (wr.alloc (.cells (segCells (.slice a5 j c5) 0 0 (.pointer none)) 240)) 210 1 x.tv 0 []:=(hrest.train.row.later HB2.out).mk _
      have hA:=segAdd yb 11 0 201 (some ⟨wr.heap.size,0,none⟩) x.tv _ [] _ hBA rfl hTA (hTA.ne hBA (by decide)) (by omega)
      have HBA:Hid (Bx (wr.alloc (.cells (segCells (.slice a5 j c5) 0 0 (.pointer none)) 240)) yb 201 (yardCells c x s.begun s.now (.slice qa q.length qcap) sb s.outs.length ov)):=hBA
      have HTA:Hid (Sl (wr.alloc (.cells (segCells (.slice a5 j c5) 0 0 (.pointer none)) 240)) 210 1 x.tv 0 []):=hTA
      have HXA:Hid (Bx (wr.alloc (.cells (segCells (.slice a5 j c5) 0 0 (.pointer none)) 240)) wr.heap.size 240 (segCells (.slice a5 j c5) 0 0 (.pointer none))):=Bx.new _ _ _
      have HBw:Hid (Below w.heap.size w (wr.alloc (.cells (segCells (.slice a5 j c5) 0 0 (.pointer none)) 240))):=below_then HB2.out (below_new _ _)
      have HB1w:Hid (Below w1.heap.size w1 (wr.alloc (.cells (segCells (.slice a5 j c5) 0 0 (.pointer none)) 240))):=below_then hb.out (below_new _ _)
      have HRA:Hid (Sl (wr.alloc (.cells (segCells (.slice a5 j c5) 0 0 (.pointer none)) 240)) 273 2 (.slice a5 j c5) j (((r.take j).map cwOf).flatMap cC)):=HRow.out.mk _
      unfold segCells at hA HBA HTA HXA HBw HB1w HRA
      clear hBA hTA hr hrest hrl'
      go_wp2_with fail
      generalize wr.alloc (.cells #[.slice a5 j c5,.int .i64 0,.int .i64 0,.pointer none] 240)=wA at *
      have hwp:w.heap.size<=wr.heap.size:=HB2.out.size
      generalize wr.heap.size=p at *
      clear HRow HB2 hb hj hlj
      go_fit hA
      rintro e w4 ⟨rfl,tv',hB4,hT4,hL4,hO4⟩
      have hOA:OnlyT wA w4 S [201,210]:=OnlyT.mk hO4 λg hg e=>by
        rcases e with rfl|e
        · exact⟨HY.out.fy,201,by simp,Bx.ty HBA.out⟩
        · obtain⟨tl,zs,hrest⟩:=HY.out.rest
          exact⟨hrest.train.own g e,210,by simp,Sl.ty HTA.out e⟩
      have hS4:Sl w4 193 6 (.slice (some ⟨g1,o1,none⟩) q.length cap1) q.length (r.flatMap (cP c.age)):=hOA.sl (HS1.out.later HB1w.out) (by decide)
      have hD:=delete_first r c.age j g1 o1 cap1 w4 (by rw[hrl.out];exact hS4) hsl.out hk0 (by rw[hrl.out];exact hkl) (by rw[hrl.out];exact hn)
      rw[hrl.out] at hD
      have HOA:Hid (OnlyT wA w4 S [201,210]):=hOA
      have HB4:Hid (Bx w4 yb 201 (yardCells c {x with tv:=tv'} s.begun s.now (.slice qa q.length qcap) sb s.outs.length ov)):=hB4
      have HT4:Hid (Sl w4 210 1 tv' 1 [ptr p]):=hT4
      have HL4:Hid (tv'.ownBlock=x.tv.ownBlock\/∃g,tv'.ownBlock=some g/\wA.heap.size<=g):=hL4
      have HBA4:Hid (TyAt w4 yb 201):=hB4.ty
      have HS4t:Hid (TyAt w4 g1 193):=hS4.ty rfl
      clear hA hB4 hT4 hL4 hO4 hOA hS4
      go_wp2_with fail
      go_fit hD
      rintro e w5 ⟨rfl,hS5,hG5⟩
      have hgy:g1≠yb:=by omega
      have hB5:Bx w5 yb 201 (yardCells c {x with tv:=tv'} s.begun s.now (.slice qa q.length qcap) sb s.outs.length ov):=HB4.out.grown hG5 (by simpa using hgy.symm)
      have b9:=hB5.c 9 (.slice qa q.length qcap)
      have f9:=hB5.fr 9
      have hB6:Bx (w5.setCell ⟨yb,9,none⟩ (.slice (some ⟨g1,o1,none⟩) (q.length-j) cap1)) yb 201 (yardCells c {x with tv:=tv'} s.begun s.now (.slice (some ⟨g1,o1,none⟩) (q.length-j) cap1) sb s.outs.length ov):=by
        have:=hB5.set 9 (.slice (some ⟨g1,o1,none⟩) (q.length-j) cap1)
        rwa [set9] at this
      have HS6:Hid (Sl (w5.setCell ⟨yb,9,none⟩ (.slice (some ⟨g1,o1,none⟩) (q.length-j) cap1)) 193 6 (.slice (some ⟨g1,o1,none⟩) (q.length-j) cap1) (q.length-j) ((r.drop j).flatMap (cP c.age))):=hS5.grown (grown_set _ _ _ _) (λg hg e=>hgy (by cases hg;injection e with e;exact e.symm))
      have HO6:Hid (Only w4 (w5.setCell ⟨yb,9,none⟩ (.slice (some ⟨g1,o1,none⟩) (q.length-j) cap1)) (λg=>g=yb\/g=g1)):=(Only.of_grown hG5 (S:=λg=>g=yb\/g=g1) λg h=>by cases h;exact .inr rfl).set (.inl (.inl rfl))
      have HB6:Hid (Bx (w5.setCell ⟨yb,9,none⟩ (.slice (some ⟨g1,o1,none⟩) (q.length-j) cap1)) yb 201 (yardCells c {x with tv:=tv'} s.begun s.now (.slice (some ⟨g1,o1,none⟩) (q.length-j) cap1) sb s.outs.length ov)):=hB6
      clear hD hS5 hG5 hB5 HB4 hB6
      go_wp2_with fail
      generalize w5.setCell ⟨yb,9,none⟩ (.slice (some ⟨g1,o1,none⟩) (q.length-j) cap1)=w6 at *
      clear b9 f9
      go_loopw [64] (λiv wr=>∃m:Nat,m<=q.length-j/\iv=.int .i64 m/\Hid (Sl wr 193 6 (.slice (some ⟨g1,o1,none⟩) (q.length-j) cap1) (q.length-j) ((upTo (r.drop j) m).flatMap (cP c.age)))/\Hid (w6.grownBy wr (some g1))) (λi _=>q.length-j-(intOf i).toNat)
      case atStart=>exact⟨0,Nat.zero_le _,rfl,by simpa[upTo] using HS6,World.grownBy.refl _ _⟩
      case round=>
        obtain⟨m,hm,rfl,hS7,hG7⟩:=hrel
        have b9:wr.cell? ⟨yb,9,none⟩=some (.slice (some ⟨g1,o1,none⟩) (q.length-j) cap1):=(HB6.out.grown hG7.out (by simpa using hgy.symm)).cell (i:=9) rfl
        by_cases hlm:m<q.length-j
        · have hll:m<(r.drop j).length:=by rw[List.length_drop,hrl.out];exact hlm
          have hlu:m<(upTo (r.drop j) m).length:=by rw[upTo_len];exact hll
          have hmem:(r.drop j)[m].1∈s.queue:=HY.out.qs.mem_iff.1 (List.mem_map_of_mem (HR.out.2.mem_iff.1 (List.mem_of_mem_drop (List.getElem_mem hll))))
          have hps:(r.drop j)[m].1.passed<1048576000:=by
            have:=(hI.top _ hmem).2.2.1
            omega
          have e2:wr.cell? ⟨g1,o1+m*6+2,none⟩=some (.int .i64 (r.drop j)[m].1.passed):=by
            have:=hS7.out.cell (j:=m*6+2) (u:=.int .i64 (r.drop j)[m].1.passed) (by rw[flat_get (cP c.age) 6 (λ_=>rfl) _ m 2 hlu (by decide),upTo_get _ _ hll];rfl)
            rwa [<-Nat.add_assoc] at this
          have f2:=hS7.out.fr (o1+m*6+2)
          have HN:Hid (∀W:World,Sl W 193 6 (.slice (some ⟨g1,o1,none⟩) (q.length-j) cap1) (q.length-j) ((upTo (r.drop j) m).flatMap (cP c.age))->Sl (W.setCell ⟨g1,o1+m*6+2,none⟩ (.int .i64 (((r.drop j)[m].1.passed:Int)+1))) 193 6 (.slice (some ⟨g1,o1,none⟩) (q.length-j) cap1) (q.length-j) ((upTo (r.drop j) (m+1)).flatMap (cP c.age))):=λW hW=>by
            have:=hW.set (m*6+2) (.int .i64 (((r.drop j)[m].1.passed:Int)+1))
            rw[<-upTo_succ _ _ hll]
            have hf:=flat_up c.age (upTo (r.drop j) m) m hlu
            rw[upTo_get _ _ hll] at hf
            rw[hf,Nat.add_assoc]
            exact this
          generalize (r.drop j)[m].1.passed=ps at *
          clear hmem hlu
          go_wp2_with fail
          refine⟨⟨m+1,hlm,by go_num,HN.out _ hS7.out,hG7.out.trans (grown_set _ _ _ _)⟩,by simp[intOf];omega⟩
        · obtain rfl:m=q.length-j:=by omega
          go_wp2_with fail
          go_ret
          have h:=HY.out
          have hB7:Bx wr yb 201 (yardCells c {x with tv:=tv'} s.begun s.now (.slice (some ⟨g1,o1,none⟩) (q.length-j) cap1) sb s.outs.length ov):=HB6.out.grown hG7.out (by simpa using hgy.symm)
          have O1:OnlyT w w4 S [201,210]:=(OnlyT.below (ts:=[]) HBw.out).trans HOA.out (Plus.old w)
          have O2':Only w4 wr (λk=>k=yb\/k=g1):=HO6.out.trans (Only.of_grown hG7.out (S:=λk=>k=g1) λk e=>by cases e;rfl) λk e=>.inl (.inr e)
          have O:OnlyT w wr S [201,210]:=Only.trans O1 O2' λk e=>by
            rcases e with rfl|rfl
            · exact .inl ⟨h.fy,201,by simp,h.box.ty⟩
            · exact .inr hg1
          have K2:KeepT w4 wr [201,193]:=(OnlyT.mk (S:=λ_=>True) O2' λk _ e=>by
            rcases e with rfl|rfl
            · exact⟨trivial,201,by simp,HBA4.out⟩
            · exact⟨trivial,193,by simp,HS4t.out⟩).k
          obtain⟨tl,zs,hrest⟩:=h.rest
          have hmin:(s.ranked c).take j=(s.ranked c).take c.batch/\(s.ranked c).drop j=(s.ranked c).drop c.batch:=by
            have hl:(s.ranked c).length=q.length:=by rw[<-HR.out.1,List.length_map,hrl.out]
            have hk:=HK.out
            by_cases hle:c.batch<=q.length
            · rw[Nat.min_eq_left hle] at hk
              rw[hk];exact⟨rfl,rfl⟩
            · rw[Nat.min_eq_right (by omega)] at hk
              exact⟨by rw[List.take_of_length_le (by omega),List.take_of_length_le (by omega)],by rw[List.drop_eq_nil_of_le (by omega),List.drop_eq_nil_of_le (by omega)]⟩
          have hall:=upTo_all (r.drop j) (q.length-j) (by rw[List.length_drop,hrl.out];exact Nat.le_refl _)
          have hS7':=hS7.out
          rw[hall] at hS7'
          have hsz1:=HB1.out.size
          have hin:∀z∈r,z∈q:=λz hz=>HR.out.2.mem_iff.1 hz
          refine⟨rfl,⟨(r.drop j).map upP,.slice (some ⟨g1,o1,none⟩) (q.length-j) cap1,tv',⟨?_,hB7,⟨?_,λy hy=>?_,λg hg=>?_,λy hy g hg=>?_⟩,O.sub h.sub (by decide),h.outs.keptT O.k (Plus.old w) (by decide),.inl h.fy,.inl h.fs,⟨tl,[(p,Sm.new (((s.ranked c).take c.batch).map Ch.cg))],h.np,Nat.lt_of_lt_of_le hrest.ml O.size,hrest.tip.imp (λe=>e) .inl,O.map hrest.map (by decide),hrest.main.keptT O.k (Plus.old w) (by decide) (by decide),rfl,K2.sl HT4.out (by decide),λg hg=>?_,by simp,λz hz=>?_⟩,h.nt⟩⟩,O⟩
          · show (((r.drop j).map upP).map Prod.fst).Perm ((s.queue.filter _).map Ch.up)
            have e:((r.drop j).map upP).map Prod.fst=((s.ranked c).drop c.batch).map Ch.up:=by
              rw[<-hmin.2,<-HR.out.1,<-List.map_drop,List.map_map,List.map_map];rfl
            rw[e]
            exact((hI.left hc c.batch).map Ch.up).symm
          · rw[List.length_map,List.length_drop,hrl.out];exact hS7'
          · obtain⟨z,hz,rfl⟩:=List.mem_map.1 hy
            exact O.sl (h.que.eds z (hin z (List.mem_of_mem_drop hz))) (by decide)
          · cases hg;exact .inr hg1
          · obtain⟨z,hz,rfl⟩:=List.mem_map.1 hy
            exact .inl (h.que.fe z (hin z (List.mem_of_mem_drop hz)) g hg)
          · rcases HL4.out with e|⟨g',e,hg'⟩
            · rw[e] at hg;exact .inl (hrest.train.own g hg)
            · rw[e] at hg;cases hg;exact .inr (Nat.le_trans HBw.out.size hg')
          · obtain rfl:=List.mem_singleton.1 hz
            refine⟨.slice a5 j c5,.pointer none,(r.take j).map cwOf,K2.bx (HOA.out.bx HXA.out (by decide)) (by decide),⟨?_,?_,λg hg=>?_,λy hy=>?_⟩,rfl,.inr hwp⟩
            · show _=((s.ranked c).take c.batch).map Ch.cg
              rw[<-hmin.1,<-HR.out.1,<-List.map_take,List.map_map,List.map_map];rfl
            · have:=K2.sl (HOA.out.sl HRA.out (by decide)) (by decide)
              rwa [show ((r.take j).map cwOf).length=j by rw[List.length_map,List.length_take,hrl.out];exact Nat.min_eq_left hkl]
            · exact .inr (Nat.le_trans hsz1 (HNew.out g hg))
            · obtain⟨z,hz,rfl⟩:=List.mem_map.1 hy
              exact⟨O.sl (h.que.eds z (hin z (List.mem_of_mem_take hz))) (by decide),λg hg=>.inl (h.que.fe z (hin z (List.mem_of_mem_take hz)) g hg)⟩
end
end Go.Proofs.YtgamgomepdfgdaaGreat
