import Derived.Lib.SliceRun
import Derived.Shelf.SlSortCmp.InsertionK
import Derived.Test.YtgamgomepdfgdaaGreatEM13
set_option maxRecDepth 100000
set_option maxHeartbeats 8000000
namespace Go.Proofs.YtgamgomepdfgdaaGreat
open Go.RowKit Go.Proofs.Tryz
def laneOf (age:Nat)(x:Pw):Nat:=x.1.lane-x.1.passed/age
theorem yLane (age i l p o:Nat)(ea:Option Addr)(en ec:Nat)(w:World)(ha:1<=age/\age<9)(hl:l<1000)(hp:p<4611686018427387904):
    Calls prog 297 #[.agg #[.int .i64 i,.int .i64 l,.int .i64 p,.int .i64 age,.int .i64 o,.slice ea en ec]] w λe w'=>e=.returned (.int .i64 ((l-p/age:Nat):Int))/\Below w.heap.size w w'/\w.drawn<=w'.drawn:=by
  have hne:((age:Int)==0)=false:=by simp;omega
  obtain⟨d,hd⟩:∃d,d=p/age:=⟨_,rfl⟩
  have hq:Int.tdiv (p:Int) (age:Int)=(d:Int):=by rw[hd,Int.ofNat_tdiv]
  have hq2:(p:Int)/(age:Int)=(d:Int):=by rw[hd,Int.natCast_ediv]
  have hb:d<=p:=by rw[hd];exact Nat.div_le_self _ _
  rw[<-hd]
  clear hd
  have hw:IntKind.i64.wrap ((l:Int)-d)=(l:Int)-d:=wrap_i64 (by omega) (by omega)
  have hw2:wrap64 ((l:Int)-d)=(l:Int)-d:=by unfold wrap64;omega
  have hmx:max 0 ((l:Int)-d)=((l-d:Nat):Int):=by omega
  have X0:=Bx.new w #[.int .i64 i,.int .i64 l,.int .i64 p,.int .i64 age,.int .i64 o,.slice ea en ec] 193
  have x1:=X0.c 1 (.int .i64 l)
  have x2:=X0.c 2 (.int .i64 p)
  have x3:=X0.c 3 (.int .i64 age)
  clear X0
  go_enter func297,ntmps297
  go_upto_region 1 with fail
  go_region_held_law (λw'=>w'.cell? ⟨w.heap.size,1,none⟩=some (.int .i64 l)/\w'.cell? ⟨w.heap.size,2,none⟩=some (.int .i64 p)/\w'.cell? ⟨w.heap.size,3,none⟩=some (.int .i64 age)) (go_keep) (fail)
  all_goals
    go_wp2_with fail
    go_ret
    refine⟨?_,below_new_drew _ _,Nat.le_succ _⟩
    first|rfl|(rw[<-hmx];rfl)|(rw[<-hmx])
theorem below_two_drew {n:Nat}{w0 w1 w2:World}(h1:Below w0.drew.heap.size w0.drew w1)(h2:Below w1.heap.size w1 w2)(hn:n<=w0.heap.size):Below n w0 w2:=
  ⟨h2.os.trans h1.os,h2.tape.trans h1.tape,h2.output.trans h1.output,Nat.le_trans h1.size h2.size,λk hk=>(h2.block k (Nat.lt_of_lt_of_le hk (Nat.le_trans hn h1.size))).trans (h1.block k (Nat.lt_of_lt_of_le hk hn))⟩
theorem yBefore (age i l p o i' l' p' o':Nat)(ea:Option Addr)(en ec:Nat)(ea':Option Addr)(en' ec':Nat)(w:World)(ha:1<=age/\age<9)(hl:l<1000)(hp:p<4611686018427387904)(hl':l'<1000)(hp':p'<4611686018427387904)(r:Bool)(hr:r=true↔(l-p/age<l'-p'/age\/(l-p/age=l'-p'/age/\o<o'))):
    Calls prog 296 #[.agg #[.int .i64 i,.int .i64 l,.int .i64 p,.int .i64 age,.int .i64 o,.slice ea en ec],.agg #[.int .i64 i',.int .i64 l',.int .i64 p',.int .i64 age,.int .i64 o',.slice ea' en' ec']] w λe w'=>e=.returned (.bool r)/\Below w.heap.size w w'/\w.drawn<=w'.drawn:=by
  have hB0:Below w.heap.size w ((w.alloc (.cells #[.int .i64 i,.int .i64 l,.int .i64 p,.int .i64 age,.int .i64 o,.slice ea en ec] 193)).alloc (.cells #[.int .i64 i',.int .i64 l',.int .i64 p',.int .i64 age,.int .i64 o',.slice ea' en' ec'] 193)):=below_then (below_new _ _) (below_new _ _)
  have hN0:w.drawn<=((w.alloc (.cells #[.int .i64 i,.int .i64 l,.int .i64 p,.int .i64 age,.int .i64 o,.slice ea en ec] 193)).alloc (.cells #[.int .i64 i',.int .i64 l',.int .i64 p',.int .i64 age,.int .i64 o',.slice ea' en' ec'] 193)).drawn:=Nat.le_refl _
  have X0:=(Bx.new w #[.int .i64 i,.int .i64 l,.int .i64 p,.int .i64 age,.int .i64 o,.slice ea en ec] 193).mk (.cells #[.int .i64 i',.int .i64 l',.int .i64 p',.int .i64 age,.int .i64 o',.slice ea' en' ec'] 193)
  have X1:=Bx.new (w.alloc (.cells #[.int .i64 i,.int .i64 l,.int .i64 p,.int .i64 age,.int .i64 o,.slice ea en ec] 193)) #[.int .i64 i',.int .i64 l',.int .i64 p',.int .i64 age,.int .i64 o',.slice ea' en' ec'] 193
  have e1:(w.alloc (.cells #[.int .i64 i,.int .i64 l,.int .i64 p,.int .i64 age,.int .i64 o,.slice ea en ec] 193)).heap.size=w.heap.size+1:=by simp
  rw[e1] at X1
  clear e1
  go_enter func296,ntmps296
  go_upto_region 1 with fail
  generalize (w.alloc (.cells #[.int .i64 i,.int .i64 l,.int .i64 p,.int .i64 age,.int .i64 o,.slice ea en ec] 193)).alloc (.cells #[.int .i64 i',.int .i64 l',.int .i64 p',.int .i64 age,.int .i64 o',.slice ea' en' ec'] 193)=w0 at *
  have a0:w0.cell? ⟨w.heap.size,0,none⟩=some (.int .i64 i):=X0.cell (i:=0) rfl
  have a1:w0.cell? ⟨w.heap.size,1,none⟩=some (.int .i64 l):=X0.cell (i:=1) rfl
  have a2:w0.cell? ⟨w.heap.size,2,none⟩=some (.int .i64 p):=X0.cell (i:=2) rfl
  have a3:w0.cell? ⟨w.heap.size,3,none⟩=some (.int .i64 age):=X0.cell (i:=3) rfl
  have a4:w0.cell? ⟨w.heap.size,4,none⟩=some (.int .i64 o):=X0.cell (i:=4) rfl
  have a5:w0.cell? ⟨w.heap.size,5,none⟩=some (.slice ea en ec):=X0.cell (i:=5) rfl
  have b0:w0.cell? ⟨w.heap.size+1,0,none⟩=some (.int .i64 i'):=X1.cell (i:=0) rfl
  have b1:w0.cell? ⟨w.heap.size+1,1,none⟩=some (.int .i64 l'):=X1.cell (i:=1) rfl
  have b2:w0.cell? ⟨w.heap.size+1,2,none⟩=some (.int .i64 p'):=X1.cell (i:=2) rfl
  have b3:w0.cell? ⟨w.heap.size+1,3,none⟩=some (.int .i64 age):=X1.cell (i:=3) rfl
  have b4:w0.cell? ⟨w.heap.size+1,4,none⟩=some (.int .i64 o'):=X1.cell (i:=4) rfl
  have b5:w0.cell? ⟨w.heap.size+1,5,none⟩=some (.slice ea' en' ec'):=X1.cell (i:=5) rfl
  have HB0:Hid (Below w.heap.size w w0):=hB0
  have HN0:Hid (w.drawn<=w0.drawn):=hN0
  have Hr:Hid (r=true↔(l-p/age<l'-p'/age\/(l-p/age=l'-p'/age/\o<o'))):=hr
  clear hB0 hN0 X0 X1 hr
  go_cut [5,6] from 7 (λu v wz=>u=.int .i64 ((l-p/age:Nat):Int)/\v=.int .i64 ((l'-p'/age:Nat):Int)/\wz.cell? ⟨w.heap.size,4,none⟩=some (.int .i64 o)/\wz.cell? ⟨w.heap.size+1,4,none⟩=some (.int .i64 o')/\Below w.heap.size w wz/\w.drawn<=wz.drawn)
  case first=>
    go_region_held_law (λw'=>w'.cell? ⟨w.heap.size,0,none⟩=some (.int .i64 i)/\w'.cell? ⟨w.heap.size,1,none⟩=some (.int .i64 l)/\w'.cell? ⟨w.heap.size,2,none⟩=some (.int .i64 p)/\w'.cell? ⟨w.heap.size,3,none⟩=some (.int .i64 age)/\w'.cell? ⟨w.heap.size,4,none⟩=some (.int .i64 o)/\w'.cell? ⟨w.heap.size,5,none⟩=some (.slice ea en ec)/\w'.cell? ⟨w.heap.size+1,0,none⟩=some (.int .i64 i')/\w'.cell? ⟨w.heap.size+1,1,none⟩=some (.int .i64 l')/\w'.cell? ⟨w.heap.size+1,2,none⟩=some (.int .i64 p')/\w'.cell? ⟨w.heap.size+1,3,none⟩=some (.int .i64 age)/\w'.cell? ⟨w.heap.size+1,4,none⟩=some (.int .i64 o')/\w'.cell? ⟨w.heap.size+1,5,none⟩=some (.slice ea' en' ec')) (go_keep) (first|(go_at_call 297;go_fit (yLane age i l p o ea en ec _ ha hl hp);rintro e w2 ⟨rfl,hb2,hn2⟩;have da0:=jcell_after hb2 ca0;have da1:=jcell_after hb2 ca1;have da2:=jcell_after hb2 ca2;have da3:=jcell_after hb2 ca3;have da4:=jcell_after hb2 ca4;have da5:=jcell_after hb2 ca5;have db0:=jcell_after hb2 cb0;have db1:=jcell_after hb2 cb1;have db2:=jcell_after hb2 cb2;have db3:=jcell_after hb2 cb3;have db4:=jcell_after hb2 cb4;have db5:=jcell_after hb2 cb5;have HB2:Hid (Below _ _ w2):=hb2;have HN2:Hid (_<=w2.drawn):=hn2;clear hb2 hn2)|(go_at_call 297;go_fit (yLane age i' l' p' o' ea' en' ec' _ ha hl' hp');rintro e w2 ⟨rfl,hb2,hn2⟩;have da0:=jcell_after hb2 ca0;have da1:=jcell_after hb2 ca1;have da2:=jcell_after hb2 ca2;have da3:=jcell_after hb2 ca3;have da4:=jcell_after hb2 ca4;have da5:=jcell_after hb2 ca5;have db0:=jcell_after hb2 cb0;have db1:=jcell_after hb2 cb1;have db2:=jcell_after hb2 cb2;have db3:=jcell_after hb2 cb3;have db4:=jcell_after hb2 cb4;have db5:=jcell_after hb2 cb5;have HB2:Hid (Below _ _ w2):=hb2;have HN2:Hid (_<=w2.drawn):=hn2;clear hb2 hn2)|(go_at_call 297;go_fit (yLane age i l p o ea en ec _ ha hl hp);rintro e w1 ⟨rfl,hb1,hn1⟩;have ca0:=jcell_after hb1 a0;have ca1:=jcell_after hb1 a1;have ca2:=jcell_after hb1 a2;have ca3:=jcell_after hb1 a3;have ca4:=jcell_after hb1 a4;have ca5:=jcell_after hb1 a5;have cb0:=jcell_after hb1 b0;have cb1:=jcell_after hb1 b1;have cb2:=jcell_after hb1 b2;have cb3:=jcell_after hb1 b3;have cb4:=jcell_after hb1 b4;have cb5:=jcell_after hb1 b5;have HB1:Hid (Below _ _ w1):=hb1;have HN1:Hid (_<=w1.drawn):=hn1;clear hb1 hn1)|(go_at_call 297;go_fit (yLane age i' l' p' o' ea' en' ec' _ ha hl' hp');rintro e w1 ⟨rfl,hb1,hn1⟩;have ca0:=jcell_after hb1 a0;have ca1:=jcell_after hb1 a1;have ca2:=jcell_after hb1 a2;have ca3:=jcell_after hb1 a3;have ca4:=jcell_after hb1 a4;have ca5:=jcell_after hb1 a5;have cb0:=jcell_after hb1 b0;have cb1:=jcell_after hb1 b1;have cb2:=jcell_after hb1 b2;have cb3:=jcell_after hb1 b3;have cb4:=jcell_after hb1 b4;have cb5:=jcell_after hb1 b5;have HB1:Hid (Below _ _ w1):=hb1;have HN1:Hid (_<=w1.drawn):=hn1;clear hb1 hn1))
    all_goals
      go_wp2_with fail
      go_meet
      case rel=>exact⟨rfl,rfl,da4,db4,HB0.out.trans (below_two_drew HB1.out HB2.out HB0.out.size),Nat.le_trans (Nat.le_trans (Nat.le_trans HN0.out (Nat.le_succ _)) HN1.out) HN2.out⟩
  case rest=>
    obtain⟨rfl,rfl,g4,h4,hW,hN⟩:=hcut
    rename World=>W
    have HW:Hid (Below w.heap.size w W):=hW
    generalize l-p/age=x at *
    generalize l'-p'/age=y at *
    have HN:Hid (w.drawn<=W.drawn):=hN
    clear hN hW a0 a1 a2 a3 a4 a5 b0 b1 b2 b3 b4 b5 HB0
    by_cases hxy:x=y
    · subst hxy
      have e:Hid (decide (o<o')=r):=by
        show _=_
        rw[Bool.eq_iff_iff,Hr.out,decide_eq_true_eq];omega
      go_wp2_with fail
      go_ret
      exact⟨by rw[<-e.out];rfl,HW.out,HN.out⟩
    · have hne:((x:Int)==(y:Int))=false:=by simp;omega
      have hne2:¬((x:Int)=(y:Int)):=by omega
      have e:Hid (decide (x<y)=r):=by
        show _=_
        rw[Bool.eq_iff_iff,Hr.out,decide_eq_true_eq];omega
      go_wp2_with fail
      go_ret
      exact⟨by rw[<-e.out];rfl,HW.out,HN.out⟩
theorem meth (n:Nat)(v:Value)(W:World):(method (n+1) 193 v "Before").run prog W=.ok (296,v) W:=by kernel_rfl
theorem yCmp (age i l p o i' l' p' o':Nat)(ea:Option Addr)(en ec:Nat)(ea':Option Addr)(en' ec':Nat)(w:World)(ha:1<=age/\age<9)(hl:l<1000)(hp:p<4611686018427387904)(hl':l'<1000)(hp':p'<4611686018427387904)(r s:Bool)(hr:r=true↔(l-p/age<l'-p'/age\/(l-p/age=l'-p'/age/\o<o')))(hs:s=true↔(l'-p'/age<l-p/age\/(l'-p'/age=l-p/age/\o'<o))):
    Calls prog 156 #[.agg #[.int .i64 i,.int .i64 l,.int .i64 p,.int .i64 age,.int .i64 o,.slice ea en ec],.agg #[.int .i64 i',.int .i64 l',.int .i64 p',.int .i64 age,.int .i64 o',.slice ea' en' ec']] w λe w'=>e=.returned (.int .i64 (if r then -1 else if s then 1 else 0))/\Below w.heap.size w w'/\w.drawn<=w'.drawn:=by
  have hA:∀W,Calls prog 296 #[.agg #[.int .i64 i,.int .i64 l,.int .i64 p,.int .i64 age,.int .i64 o,.slice ea en ec],.agg #[.int .i64 i',.int .i64 l',.int .i64 p',.int .i64 age,.int .i64 o',.slice ea' en' ec']] W λe w'=>e=.returned (.bool r)/\Below W.heap.size W w'/\W.drawn<=w'.drawn:=λW=>yBefore age i l p o i' l' p' o' ea en ec ea' en' ec' W ha hl hp hl' hp' r hr
  have hB:∀W,Calls prog 296 #[.agg #[.int .i64 i',.int .i64 l',.int .i64 p',.int .i64 age,.int .i64 o',.slice ea' en' ec'],.agg #[.int .i64 i,.int .i64 l,.int .i64 p,.int .i64 age,.int .i64 o,.slice ea en ec]] W λe w'=>e=.returned (.bool s)/\Below W.heap.size W w'/\W.drawn<=w'.drawn:=λW=>yBefore age i' l' p' o' i l p o ea' en' ec' ea en ec W ha hl' hp' hl hp s hs
  have HA:Hid _:=hA
  have HBB:Hid _:=hB
  have hB0:Below w.heap.size w ((w.alloc (.cells #[.int .i64 i,.int .i64 l,.int .i64 p,.int .i64 age,.int .i64 o,.slice ea en ec] 193)).alloc (.cells #[.int .i64 i',.int .i64 l',.int .i64 p',.int .i64 age,.int .i64 o',.slice ea' en' ec'] 193)):=below_then (below_new _ _) (below_new _ _)
  clear hA hB hr hs hl hp hl' hp'
  have hM:∀(v:Value) (W:World),Sem.run prog (method 460 193 v "Before") W=.ok (296,v) W:=λv W=>meth 459 v W
  go_enter func156,ntmps156
  go_wp2_with fail
  go_fit (HA.out _)
  rintro e w1 ⟨rfl,hb1,hn1⟩
  have X0:=(Bx.new w #[.int .i64 i,.int .i64 l,.int .i64 p,.int .i64 age,.int .i64 o,.slice ea en ec] 193).mk (.cells #[.int .i64 i',.int .i64 l',.int .i64 p',.int .i64 age,.int .i64 o',.slice ea' en' ec'] 193)
  have X1:=Bx.new (w.alloc (.cells #[.int .i64 i,.int .i64 l,.int .i64 p,.int .i64 age,.int .i64 o,.slice ea en ec] 193)) #[.int .i64 i',.int .i64 l',.int .i64 p',.int .i64 age,.int .i64 o',.slice ea' en' ec'] 193
  have e1:(w.alloc (.cells #[.int .i64 i,.int .i64 l,.int .i64 p,.int .i64 age,.int .i64 o,.slice ea en ec] 193)).heap.size=w.heap.size+1:=by simp
  rw[e1] at X1
  have a0:w1.cell? ⟨w.heap.size,0,none⟩=some (.int .i64 i):=jcell_after hb1 (X0.cell (i:=0) rfl)
  have a1:w1.cell? ⟨w.heap.size,1,none⟩=some (.int .i64 l):=jcell_after hb1 (X0.cell (i:=1) rfl)
  have a2:w1.cell? ⟨w.heap.size,2,none⟩=some (.int .i64 p):=jcell_after hb1 (X0.cell (i:=2) rfl)
  have a3:w1.cell? ⟨w.heap.size,3,none⟩=some (.int .i64 age):=jcell_after hb1 (X0.cell (i:=3) rfl)
  have a4:w1.cell? ⟨w.heap.size,4,none⟩=some (.int .i64 o):=jcell_after hb1 (X0.cell (i:=4) rfl)
  have a5:w1.cell? ⟨w.heap.size,5,none⟩=some (.slice ea en ec):=jcell_after hb1 (X0.cell (i:=5) rfl)
  have b0:w1.cell? ⟨w.heap.size+1,0,none⟩=some (.int .i64 i'):=jcell_after hb1 (X1.cell (i:=0) rfl)
  have b1:w1.cell? ⟨w.heap.size+1,1,none⟩=some (.int .i64 l'):=jcell_after hb1 (X1.cell (i:=1) rfl)
  have b2:w1.cell? ⟨w.heap.size+1,2,none⟩=some (.int .i64 p'):=jcell_after hb1 (X1.cell (i:=2) rfl)
  have b3:w1.cell? ⟨w.heap.size+1,3,none⟩=some (.int .i64 age):=jcell_after hb1 (X1.cell (i:=3) rfl)
  have b4:w1.cell? ⟨w.heap.size+1,4,none⟩=some (.int .i64 o'):=jcell_after hb1 (X1.cell (i:=4) rfl)
  have b5:w1.cell? ⟨w.heap.size+1,5,none⟩=some (.slice ea' en' ec'):=jcell_after hb1 (X1.cell (i:=5) rfl)
  have HB1:Hid (Below w.heap.size w w1):=hB0.trans (hb1.mono hB0.size)
  have HN1:Hid (w.drawn<=w1.drawn):=hn1
  clear hn1
  have hB1:=HBB.out w1
  clear X0 X1 e1 hb1 hB0 HA HBB
  cases r
  · go_wp2_with fail
    go_fit hB1
    rintro e w2 ⟨rfl,hb2,hn2⟩
    have HB2:Hid (Below w.heap.size w w2):=HB1.out.trans (hb2.mono HB1.out.size)
    have HN2:Hid (w.drawn<=w2.drawn):=Nat.le_trans HN1.out hn2
    clear hn2 hb2 hB1 a0 a1 a2 a3 a4 a5 b0 b1 b2 b3 b4 b5
    cases s
    · go_wp2_with fail
      go_ret
      exact⟨rfl,HB2.out,HN2.out⟩
    · go_wp2_with fail
      go_ret
      exact⟨rfl,HB2.out,HN2.out⟩
  · go_wp2_with fail
    go_ret
    exact⟨rfl,HB1.out,HN1.out⟩
theorem yClone (q:List Pw)(age g off cap:Nat)(w:World)(hS:Sl w 193 6 (.slice (some ⟨g,off,none⟩) q.length cap) q.length (q.flatMap (cP age)))(hsl:∀x∈q,IsSl x.2)(hn:q.length<=16)(hpos:0<q.length):
    Calls prog 154 #[.slice (some ⟨g,off,none⟩) q.length cap] w λe w'=>(∃v',e=.returned v'/\w'.ownsRow w.heap.size 193 6 v' q.length (q.flatMap (cP age)))/\Below w.heap.size w w':=by
  obtain⟨i0,hi,hz0,hz1,hz2⟩:=info_parts info_pw
  have HS:Hid (∀o,∀j u,(q.flatMap (cP age))[j]? =some u->(w.alloc o).cell? ((⟨g,off,none⟩:Addr).add j)=some u):=λo j u hu=>by
    have e:(⟨g,off,none⟩:Addr).add j=⟨g,off+j,none⟩:=by
      unfold Addr.add
      by_cases h:j=0
      · subst h;simp
      · simp[h]
    rw[e]
    exact(hS.mk o).cell hu
  have h1:Hid (∀u∈q.flatMap (cP age),u.oneCell'=true):=λu hu=>by
    obtain⟨x,hx,hu⟩:=List.mem_flatMap.1 hu
    obtain⟨a,n,c,hv⟩:=hsl x hx
    simp only[cP,List.mem_cons,List.not_mem_nil,or_false] at hu
    rcases hu with rfl|rfl|rfl|rfl|rfl|rfl
    · rfl
    · rfl
    · rfl
    · rfl
    · rfl
    · rw[hv];rfl
  have hle:Hid ((q.flatMap (cP age)).length=q.length*6):=flat_len (cP age) 6 (λ_=>rfl) q
  have q1:Hid (0+q.length<=maxLen):=by show _<=_;unfold maxLen;omega
  have q2:Hid ((0+q.length)*64<=140737488355328):=by show _<=_;omega
  have q3:Hid (0<0+q.length):=by show _<_;omega
  have hnil:∀W:World,(binOp .eql 190 (.slice (some ⟨g,off,none⟩) q.length cap) (.slice none 0 0)).run prog W=.ok (.bool false) W:=λW=>Lib.run_eql_slice_nil W _ _ _ _ _ _ _ underlying190
  clear hS hsl
  go_enter func154,ntmps154
  go_wp2_with (at_builtin;refine wpList_append_grows _ rfl _ _ 190 rfl _ i0 _ 6 64 underlying190 hi hz0 hz1 hz2 rfl (by decide) (some ⟨w.heap.size,0,none⟩) 0 0 [] rfl (by intro h;cases h) rfl (by intro _ _ j u hu;simp at hu) ⟨g,off,none⟩ q.length cap (q.flatMap (cP age)) rfl hle.out (HS.out _) h1.out q3.out q1.out q2.out ?_;intro v3 w3 hown3 hg3)
  have hb3:Below w.heap.size w w3:=(below_new _ _).grown hg3 (by simp) (by simp)
  have hr3:w3.ownsRow w.heap.size 193 6 v3 q.length (q.flatMap (cP age)):=by
    have:=row_low hown3 (base':=w.heap.size) (by simp)
    simpa using this
  obtain⟨a3,c3,rfl⟩:=row_shape3 hr3
  go_wp2_with fail
  go_ret
  exact⟨⟨_,rfl,hr3⟩,hb3⟩
section
open Go.Shelf
open Go.Sort (grow grow_grow heap_grow_old SWO HoldsK flatK size_flatK get_flatK putCells putRow mapBlock onCells putRowK PermIn SortedIn)
theorem grew {w w':World}(hb:Below w.heap.size w w')(hd:w.drawn<=w'.drawn):∃q os',w'=grow (w.drewN q) os':=by
  refine⟨w'.drawn-w.drawn,w'.heap.extract w.heap.size w'.heap.size,?_⟩
  obtain⟨h1,h2,h3,h4,h5⟩:=hb
  have e:w.heap++w'.heap.extract w.heap.size w'.heap.size=w'.heap:=by
    apply Array.ext_getElem?
    intro k
    by_cases hk:k<w.heap.size
    · rw[Array.getElem?_append_left hk,h5 k hk]
    · rw[Array.getElem?_append_right (by omega),Array.getElem?_extract]
      by_cases hk2:k<w'.heap.size
      · rw[if_pos (by omega)];congr 1;omega
      · rw[if_neg (by omega),Array.getElem?_eq_none (by omega)]
  have e2:w.drawn+(w'.drawn-w.drawn)=w'.drawn:=by omega
  show w'={w with heap:=w.heap++_,drawn:=w.drawn+(w'.drawn-w.drawn)}
  rw[e,e2,<-h1,<-h2,<-h3]
structure Rw where
  val:Pw
  ok:val.1.lane<1000/\val.1.passed<4611686018427387904/\IsSl val.2
def rwZero:Rw:=⟨(⟨0,0,0,0,[]⟩,.slice none 0 0),by simp,by simp,⟨none,0,0,rfl⟩⟩
def cR (age:Nat)(x:Rw):List Value:=cP age x.val
def ordOf (x:Pw):Nat:=x.1.ord
def ltR (age:Nat)(x y:Rw):Bool:=decide (laneOf age x.val<laneOf age y.val\/(laneOf age x.val=laneOf age y.val/\ordOf x.val<ordOf y.val))
def cmpR (age:Nat)(x y:Rw):Int:=if ltR age x y then -1 else if ltR age y x then 1 else 0
theorem ltOf_cmpR (age:Nat)(x y:Rw):ltOf (cmpR age) x y=ltR age x y:=by
  unfold ltOf cmpR
  cases ltR age x y<;>cases ltR age y x<;>simp
theorem ltR_iff (age:Nat)(x y:Rw):ltR age x y=true↔Bef (laneOf age) ordOf x.val y.val:=by unfold ltR Bef;simp
theorem ltR_not (age:Nat)(x y:Rw):ltR age x y=false↔¬Bef (laneOf age) ordOf x.val y.val:=by rw[<-ltR_iff];simp
theorem swoR (age:Nat):SWO (ltOf (cmpR age)) where
  irrefl x:=by rw[ltOf_cmpR,ltR_not];unfold Bef;omega
  trans x y z h1 h2:=by rw[ltOf_cmpR,ltR_iff] at *;unfold Bef at *;omega
  ntrans x y z h1 h2:=by rw[ltOf_cmpR,ltR_not] at *;unfold Bef at *;omega
theorem flatK_eq [Inhabited Rw](age:Nat)(l:List Rw):(flatK (cR age) 6 l.toArray).toList=l.flatMap (cR age):=by
  apply List.ext_getElem?
  intro t
  by_cases ht:t<l.length*6
  · have h1:t/6<l.length:=by omega
    have e:t=t/6*6+t%6:=by omega
    have hr:(l.flatMap (cR age))[t]? =(cR age l[t/6])[t%6]? :=by
      conv=>lhs;rw[e]
      exact flat_get (cR age) 6 (λ_=>rfl) l (t/6) (t%6) h1 (by omega)
    have hs:t<(flatK (cR age) 6 l.toArray).size:=by rw[size_flatK];simpa using ht
    rw[hr,Array.getElem?_toList,Array.getElem?_eq_getElem hs,<-getElem!_pos _ t hs,get_flatK _ _ _ t (by simpa using ht)]
    have e2:(l.toArray)[t/6]! =l[t/6]:=by rw[getElem!_pos l.toArray (t/6) (by simpa using h1)];simp
    rw[e2]
    have h2:t%6<(cR age l[t/6]).length:=by show t%6<6;omega
    rw[getElem!_pos (cR age l[t/6]) (t%6) h2,List.getElem?_eq_getElem h2]
  · rw[List.getElem?_eq_none (by rw[Array.length_toList,size_flatK];simp;omega),List.getElem?_eq_none (by rw[flat_len (cR age) 6 (λ_=>rfl)];omega)]
theorem flatK_size [Inhabited Rw](age:Nat)(l:List Rw):(flatK (cR age) 6 l.toArray).size=l.length*6:=by rw[size_flatK];simp
theorem holdsR [Inhabited Rw]{w:World}{age g:Nat}{cur:Array Value}{e:TypeId}{l:List Rw}(hb:w.heap[g]? =some (.cells cur e (0,0)))(ht:cur.toList.take (l.length*6)=l.flatMap (cR age)):HoldsK (cR age) 6 w g 0 l.toArray:=by
  intro j hj
  have hj':j<l.length*6:=by rw[flatK_size] at hj;exact hj
  refine⟨?_,by simp[World.frozen?,hb]⟩
  have h1:(cur.toList.take (l.length*6))[j]? =(flatK (cR age) 6 l.toArray).toList[j]? :=by rw[ht,flatK_eq]
  rw[List.getElem?_take_of_lt hj',Array.getElem?_toList,Array.getElem?_toList,Array.getElem?_eq_getElem hj] at h1
  simp only[World.cell?,hb,Nat.zero_add]
  simp only[Option.isSome_none,Bool.false_eq_true,if_false]
  rw[h1,getElem!_pos (flatK (cR age) 6 l.toArray) j hj]
  rfl
theorem heap_sortedR [Inhabited Rw]{w:World}{age g n:Nat}{os:Array Obj}{cur:Array Value}{e:TypeId}{fr:Nat×Nat}(d:Array Rw)(hb:w.heap[g]? =some (.cells cur e fr)):
    (sortWorldK (cR age) 6 w g 0 n d os).heap[g]? =some (.cells (putCells id 0 (flatK (cR age) 6 d) cur) e fr):=by
  have hg:g<w.heap.size:=(Array.getElem?_eq_some_iff.1 hb).1
  unfold sortWorldK putRowK
  rw[heap_grow_old _ _ (by simpa[putRow,mapBlock,Sort.ahead] using hg)]
  simp[putRow,mapBlock,Sort.ahead,Array.getElem?_modify,hb,onCells]
theorem grownBy_sortedR [Inhabited Rw]{w:World}{age g n:Nat}{os:Array Obj}(d:Array Rw):w.grownBy (sortWorldK (cR age) 6 w g 0 n d os) (some g):=by
  unfold sortWorldK putRowK
  refine⟨rfl,rfl,rfl,by simp[putRow,mapBlock,Sort.ahead,grow],λk hk hne=>?_⟩
  rw[heap_grow_old _ _ (by simpa[putRow,mapBlock,Sort.ahead] using hk)]
  have:g≠k:=λe=>hne (by rw[e])
  simp[putRow,mapBlock,Sort.ahead,Array.getElem?_modify,this]
theorem take_putCellsR (cur F:Array Value)(h:F.size<=cur.size):(putCells id 0 F cur).toList.take F.size=F.toList:=by
  apply List.ext_getElem?
  intro j
  by_cases hj:j<F.size
  · rw[List.getElem?_take_of_lt hj,Array.getElem?_toList,Array.getElem?_toList]
    simp[putCells,hj,show j<cur.size by omega]
  · rw[List.getElem?_take_eq_none (by omega),List.getElem?_eq_none (by simp;omega)]
theorem ownsRow_sortedR [Inhabited Rw]{w:World}{age base g cap n:Nat}{e:TypeId}{os:Array Obj}{cur:Array Value}{m:Nat}{ts:List Rw}(hl:ts.length=m)(hbase:base<=g)(hb:w.heap[g]? =some (.cells cur e (0,0)))(h1:m<=cap)(h2:cap<=maxLen)(h3:cur.size=cap*6):
    (sortWorldK (cR age) 6 w g 0 n ts.toArray os).ownsRow base e 6 (.slice (some ⟨g,0,none⟩) m cap) m (ts.flatMap (cR age)):=by
  refine⟨by rw[flat_len (cR age) 6 (λ_=>rfl),hl],.inr ⟨g,cap,_,rfl,hbase,heap_sortedR _ hb,h1,h2,by simp[putCells,h3],?_⟩⟩
  rw[<-hl,<-flatK_size age ts,<-flatK_eq age ts]
  exact take_putCellsR cur _ (by rw[flatK_size];omega)
def insR_ren:Ren:=⟨fun|20=>234|n=>n,fun|22=>190|24=>193|25=>247|n=>n,fun|n=>n⟩
theorem insR:SlLaysF0.n20 prog insR_ren:={
  mixed:=by kernel_rfl
  f20:=⟨Tryz.f234.name,by decide,func234.trans (congrArg some (by kernel_rfl))⟩
  t0:=underlying0
  a0:=Tryz.isAgg0
  z0:=Tryz.sizeOf0
  v0:=Tryz.zeroValue0
  t3:=underlying3
  a3:=Tryz.isAgg3
  z3:=Tryz.sizeOf3
  v3:=Tryz.zeroValue3
  t4:=underlying4
  a4:=Tryz.isAgg4
  z4:=Tryz.sizeOf4
  v4:=Tryz.zeroValue4
  t22:=underlying190
  a22:=Tryz.isAgg190
  z22:=Tryz.sizeOf190
  v22:=Tryz.zeroValue190
  t25:=underlying247
  a25:=Tryz.isAgg247
  z25:=Tryz.sizeOf247
  v25:=Tryz.zeroValue247}
theorem cmpLaysR [Inhabited Rw](age:Nat)(ha:1<=age/\age<9)(blk off size:Nat)(w:World):CmpLays prog 156 #[] (cR age) 6 (cmpR age) blk off size w:=by
  intro m os dk _ x y
  obtain⟨⟨⟨i,l,p,o,es⟩,v⟩,hx⟩:=x
  obtain⟨⟨⟨i',l',p',o',es'⟩,v'⟩,hy⟩:=y
  have hl:=hx.1
  have hp:=hx.2.1
  have hl':=hy.1
  have hp':=hy.2.1
  obtain⟨a,n,c,e⟩:=hx.2.2
  obtain⟨a',n',c',e'⟩:=hy.2.2
  dsimp only at e e' hl hp hl' hp'
  subst e e'
  refine(yCmp age i l p o i' l' p' o' a n c a' n' c' _ ha hl hp hl' hp' _ _ (ltR_iff age ⟨⟨⟨i,l,p,o,es⟩,.slice a n c⟩,hx⟩ ⟨⟨⟨i',l',p',o',es'⟩,.slice a' n' c'⟩,hy⟩) (ltR_iff age ⟨⟨⟨i',l',p',o',es'⟩,.slice a' n' c'⟩,hy⟩ ⟨⟨⟨i,l,p,o,es⟩,.slice a n c⟩,hx⟩)).mono ?_
  rintro e w' ⟨rfl,hb,hd⟩
  exact⟨rfl,grew hb hd⟩
theorem yIns [Inhabited Rw](age:Nat)(ha:1<=age/\age<9)(l:List Rw)(g cap base:Nat)(w:World)(hrow:w.ownsRow base 193 6 (.slice (some ⟨g,0,none⟩) l.length cap) l.length (l.flatMap (cR age)))(hn:l.length<=16)(q0:List Pw)(hq0:q0.Perm (l.map Rw.val))(hd:q0.Pairwise λx y=>ordOf x<ordOf y):
    Calls prog 234 #[.slice (some ⟨g,0,none⟩) l.length cap,.int .i64 0,.int .i64 l.length,.func (.func 156) #[] #[]] w λe w'=>
      e=.returned (.tuple #[])/\w'.ownsRow base 193 6 (.slice (some ⟨g,0,none⟩) l.length cap) l.length ((rkG (laneOf age) q0 1000).flatMap (cP age))/\w.grownBy w' (some g):=by
  rcases hrow.2 with ⟨hnil,_⟩|⟨g',cap',cur,hv,hbase,hb,h1,h2,h3,h4⟩
  · cases hnil
  cases hv
  have eg:∀args w,(callFunc 156 args).run prog w=.ok (.enter 156 args) w:=enters_of func156 (by kernel_rfl) rfl
  have hcon:=AnyQ.insertionSortCmpFunc insR 6 Tryz.isAgg193 Tryz.sizeOf193 (cR age) (λ_=>rfl) (λx v hv=>by
    obtain⟨a,n,c,e⟩:=x.ok.2.2
    simp[cR,cP,e] at hv
    rcases hv with rfl|rfl|rfl|rfl|rfl|rfl<;>rfl) (cmpR age) 156 #[] g 0 cap 0 l.length l.toArray w eg (cmpLaysR age ha g 0 _ w) (holdsR hb h4) (Array.getElem?_eq_some_iff.1 hb).1 (Nat.zero_le _) (by simp) (by simp;omega)
  have hcon':Calls prog 234 #[.slice (some ⟨g,0,none⟩) l.length cap,.int .i64 0,.int .i64 l.length,.func (.func 156) #[] #[]] w _:=hcon
  refine hcon'.mono ?_
  have hS:=Sort.insertionSort_holds (swoR age) l.toArray 0 l.length (Nat.zero_le _) (by simp)
  generalize Sort.insertionSort (ltOf (cmpR age)) l.toArray 0 l.length=d' at hS ⊢
  obtain⟨hp,hs⟩:=hS
  rintro e w' ⟨rfl,n,os,rfl⟩
  have hsz:d'.size=l.length:=by simpa using hp.1
  have e1:d'=d'.toList.toArray:=by simp
  have hperm:d'.toList.Perm l:=by
    have h:=hp.2.2
    have e2:d'.extract 0 l.length=d':=by rw[<-hsz];exact Array.extract_size
    have e3:l.toArray.extract 0 l.length=l.toArray:=by
      have:l.length=l.toArray.size:=by simp
      rw[this];exact Array.extract_size
    rw[e2,e3] at h
    exact h
  have hpm:(d'.toList.map Rw.val).Perm (l.map Rw.val):=hperm.map _
  have hne:(d'.toList.map Rw.val).Pairwise λx y=>ordOf x≠ordOf y:=by
    have h:=hd.imp (fun {a b} (h:ordOf a<ordOf b)=>Nat.ne_of_lt h)
    exact(hq0.trans hpm.symm).pairwise h (fun {a b} h=>h.symm)
  have hpw:(d'.toList.map Rw.val).Pairwise (Bef (laneOf age) ordOf):=by
    rw[List.pairwise_iff_getElem] at hne ⊢
    intro i j hi hj hij
    have hx:=hne i j hi hj hij
    rw[List.length_map,Array.length_toList] at hi hj
    have:=hs i j (Nat.zero_le _) hij (by omega)
    rw[ltOf_cmpR,ltR_not,getElem!_pos d' i hi,getElem!_pos d' j hj] at this
    simp only[List.getElem_map,Array.getElem_toList] at hx ⊢
    unfold Bef at *
    omega
  have hlane:∀x∈q0,laneOf age x<1000:=λx hx=>by
    replace hx:=hq0.mem_iff.1 hx
    obtain⟨y,_,rfl⟩:=List.mem_map.1 hx
    exact Nat.lt_of_le_of_lt (Nat.sub_le _ _) y.ok.1
  have hfin:d'.toList.map Rw.val=rkG (laneOf age) q0 1000:=one_order (λx y h h'=>h.asym h') ((hpm.trans hq0.symm).trans (rkG_perm hlane).symm) hpw (rkG_sorted hd 1000)
  have hflat:d'.toList.flatMap (cR age)=(rkG (laneOf age) q0 1000).flatMap (cP age):=by
    rw[<-hfin,List.flatMap_map];rfl
  refine⟨rfl,?_,grownBy_sortedR _⟩
  rw[<-hflat,e1]
  have hl:d'.toList.length=l.length:=by rw[Array.length_toList];exact hsz
  exact ownsRow_sortedR (w:=w) (base:=base) (g:=g) (cap:=cap) (n:=n) (e:=193) (os:=os) (cur:=cur) (m:=l.length) (ts:=d'.toList) hl hbase hb h1 h2 h3
end
theorem yIns0 (a:Option Addr)(c:Nat)(f:Value)(w:World):
    Calls prog 234 #[.slice a 0 c,.int .i64 0,.int .i64 0,f] w λe w'=>e=.returned (.tuple #[])/\w'=w:=by
  go_enter func234,ntmps234
  go_wp2
  refine wp_loop_rounds 1 ?_
  rw[rounds_succ]
  go_wp2
  go_end0
  exact⟨rfl,rfl⟩
theorem yStab (n:Nat)(v f:Value)(Q:World->Prop)(w:World)(hv:IsSl v)(hn:n<=16)(h:Calls prog 234 #[v,.int .i64 0,.int .i64 n,f] w λe w'=>e=.returned (.tuple #[])/\Q w'):
    Calls prog 193 #[v,.int .i64 n,f] w λe w'=>e=.returned (.tuple #[])/\Q w':=by
  obtain⟨a,m,c,rfl⟩:=hv
  go_enter func193,ntmps193
  go_wp2
  refine wp_loop_rounds 1 ?_
  rw[rounds_succ]
  go_wp2_with fail
  go_fit h
  rintro e w' ⟨rfl,hq⟩
  go_wp2_with fail
  refine wp_loop_rounds 1 ?_
  rw[rounds_succ]
  go_wp2_with fail
  go_end0
  exact⟨rfl,hq⟩
theorem ySortS (n c:Nat)(a:Option Addr)(f:Value)(Q:World->Prop)(w:World)(hn:n<=16)(h:Calls prog 234 #[.slice a n c,.int .i64 0,.int .i64 n,f] w λe w'=>e=.returned (.tuple #[])/\Q w'):
    Calls prog 155 #[.slice a n c,f] w λe w'=>e=.returned (.tuple #[])/\Q w':=by
  have h1:=yStab n (.slice a n c) f Q w ⟨a,n,c,rfl⟩ hn h
  clear h
  go_enter func155,ntmps155
  go_wp2_with fail
  go_fit h1
  rintro e w' ⟨rfl,hq⟩
  go_wp2_with fail
  go_end0
  exact⟨rfl,hq⟩
theorem yClone0 (w:World):
    Calls prog 154 #[.slice none 0 0] w λe w'=>e=.returned (.slice none 0 0)/\w'=w:=by
  have hnil:∀W:World,(binOp .eql 190 (.slice none 0 0) (.slice none 0 0)).run prog W=.ok (.bool true) W:=λW=>Lib.run_eql_slice_nil W _ _ _ _ _ _ _ underlying190
  go_enter func154,ntmps154
  go_wp2_with fail
  go_ret
  exact⟨rfl,rfl⟩
theorem yCloneE (g off cap:Nat)(w:World):
    Calls prog 154 #[.slice (some ⟨g,off,none⟩) 0 cap] w λe w'=>(∃v',e=.returned v'/\Sl w' 193 6 v' 0 [])/\Below w.heap.size w w':=by
  obtain⟨i0,hi,hz0,hz1,hz2⟩:=info_parts info_pw
  have hnil:∀W:World,(binOp .eql 190 (.slice (some ⟨g,off,none⟩) 0 cap) (.slice none 0 0)).run prog W=.ok (.bool false) W:=λW=>Lib.run_eql_slice_nil W _ _ _ _ _ _ _ underlying190
  have hS:Sl (w.alloc (.cells #[] 193)) 193 6 (.slice (some ⟨w.heap.size,0,none⟩) 0 0) 0 []:=⟨rfl,.inr ⟨w.heap.size,0,0,#[],rfl,Bx.new w #[] 193,Nat.le_refl _,by unfold maxLen;omega,by simp,λj u hu=>by simp at hu⟩⟩
  have HS:Hid (Sl (w.alloc (.cells #[] 193)) 193 6 (.slice (some ⟨w.heap.size,0,none⟩) 0 0) 0 []):=hS
  clear hS
  go_enter func154,ntmps154
  go_wp2_with (at_builtin;refine wpList_append_sl _ rfl _ _ 190 rfl _ i0 _ 6 64 underlying190 hi hz0 hz1 hz2 rfl (by decide) (.slice (some ⟨w.heap.size,0,none⟩) 0 0) 0 [] rfl HS.out ⟨g,off,none⟩ 0 cap [] rfl rfl (by intro j u hu;simp at hu) (by simp) (by unfold maxLen;omega) (by omega) ?_;intro v3 w3 hs3 hg3 _)
  have hb3:Below w.heap.size w w3:=(below_new _ _).grown hg3 (by simp) (by intro k hk;cases hk;exact Nat.le_refl _)
  obtain⟨a3,c3,rfl⟩:=hs3.form
  go_wp2_with fail
  go_ret
  exact⟨⟨_,rfl,hs3⟩,hb3⟩
def pmR (q:List Pw)(H:∀x∈q,x.1.lane<1000/\x.1.passed<4611686018427387904/\IsSl x.2):List Rw:=q.pmap (λx h=>(⟨x,h⟩:Rw)) H
theorem pmR_val (q:List Pw)(H:∀x∈q,x.1.lane<1000/\x.1.passed<4611686018427387904/\IsSl x.2):(pmR q H).map Rw.val=q:=by
  rw[pmR,List.map_pmap];simp
theorem pmR_len (q:List Pw)(H:∀x∈q,x.1.lane<1000/\x.1.passed<4611686018427387904/\IsSl x.2):(pmR q H).length=q.length:=by rw[pmR,List.length_pmap]
theorem pmR_flat (age:Nat)(q:List Pw)(H:∀x∈q,x.1.lane<1000/\x.1.passed<4611686018427387904/\IsSl x.2):(pmR q H).flatMap (cR age)=q.flatMap (cP age):=by
  conv=>rhs;rw[<-pmR_val q H,List.flatMap_map]
  rfl
theorem rkG_len {age:Nat}{q:List Pw}(H:∀x∈q,x.1.lane<1000/\x.1.passed<4611686018427387904/\IsSl x.2):(rkG (laneOf age) q 1000).length=q.length:=
  (rkG_perm λx hx=>Nat.lt_of_le_of_lt (Nat.sub_le _ _) (H x hx).1).length_eq
theorem yByRank (age:Nat)(ha:1<=age/\age<9)(q:List Pw)(v:Value)(w:World)(hS:Sl w 193 6 v q.length (q.flatMap (cP age)))(H:∀x∈q,x.1.lane<1000/\x.1.passed<4611686018427387904/\IsSl x.2)(hn:q.length<=16)(q0:List Pw)(hq0:q0.Perm q)(hd:q0.Pairwise λx y=>ordOf x<ordOf y):
    Calls prog 109 #[v] w λe w'=>(∃v',e=.returned v'/\Sl w' 193 6 v' q.length ((rkG (laneOf age) q0 1000).flatMap (cP age))/\(0<q.length->∀g,v'.ownBlock=some g->w.heap.size<=g))/\Below w.heap.size w w':=by
  by_cases hz:q=[]
  · subst hz
    have hC:Calls prog 154 #[v] w λe w'=>(∃v',e=.returned v'/\Sl w' 193 6 v' 0 [])/\Below w.heap.size w w':=by
      rcases hS.2 with ⟨rfl,_⟩|⟨g,off,cap,cur,rfl,_⟩
      · refine(yClone0 w).mono ?_
        rintro e w' ⟨rfl,rfl⟩
        exact⟨⟨_,rfl,Sl.nil _ _ _⟩,Below.refl _ _⟩
      · exact yCloneE g off cap w
    obtain rfl:=hq0.eq_nil
    have e0:(rkG (laneOf age) ([]:List Pw) 1000).flatMap (cP age)=[]:=by simp[rkG]
    rw[e0]
    obtain⟨va,vc,rfl⟩:=hS.form
    clear hS H hd e0
    go_enter func109,ntmps109
    go_wp2_with fail
    go_fit hC
    rintro e w1 ⟨⟨v1,rfl,hs1⟩,hb1⟩
    obtain⟨a1,c1,rfl⟩:=hs1.form
    have hT:=ySortS 0 c1 a1 (.func (.func 156) #[] #[]) (λw'=>w'=w1) w1 (by omega) (yIns0 a1 c1 _ w1)
    clear hC
    go_wp2_with fail
    go_fit hT
    rintro e w2 ⟨rfl,rfl⟩
    go_wp2_with fail
    go_ret
    exact⟨⟨_,rfl,hs1,λh=>absurd h (by simp)⟩,hb1⟩
  · have hpos:0<q.length:=by
      rcases q with _|_
      · exact absurd rfl hz
      · simp
    obtain⟨g,off,cap,rfl,_⟩:=hS.addr hpos
    have hC:=yClone q age g off cap w hS (λx hx=>(H x hx).2.2) hn hpos
    clear hS
    have HV:=pmR_val q H
    have HL:=pmR_len q H
    have HF:=pmR_flat age q H
    generalize pmR q H=l at HV HL HF
    clear H
    go_enter func109,ntmps109
    go_wp2_with fail
    go_fit hC
    rintro e w1 ⟨⟨v1,rfl,hr1⟩,hb1⟩
    have hT:∃g1 c1,v1=.slice (some ⟨g1,0,none⟩) q.length c1/\w.heap.size<=g1/\Calls prog 155 #[.slice (some ⟨g1,0,none⟩) q.length c1,.func (.func 156) #[] #[]] w1 λe w'=>e=.returned (.tuple #[])/\(w'.ownsRow w.heap.size 193 6 (.slice (some ⟨g1,0,none⟩) q.length c1) q.length ((rkG (laneOf age) q0 1000).flatMap (cP age))/\w1.grownBy w' (some g1)):=by
      rcases hr1.2 with ⟨_,h0⟩|⟨g1,c1,cur,rfl,hbase,_⟩
      · omega
      · rw[<-HF,<-HL] at hr1
        have inh:Inhabited Rw:=⟨rwZero⟩
        have:=yIns age ha l g1 c1 w.heap.size w1 hr1 (by omega) q0 (by rw[HV];exact hq0) hd
        rw[HL] at this
        exact⟨g1,c1,rfl,hbase,ySortS q.length c1 (some ⟨g1,0,none⟩) _ _ w1 hn this⟩
    obtain⟨g1,c1,rfl,hg1,hT⟩:=hT
    clear HV HL HF hC hr1
    go_wp2_with fail
    go_fit hT
    rintro e w2 ⟨rfl,hr2,hg2⟩
    have hb2:Below w.heap.size w w2:=hb1.grown hg2 hb1.size (by intro k hk;cases hk;exact hg1)
    clear hT
    go_wp2_with fail
    go_ret
    exact⟨⟨_,rfl,Sl.of_row hr2,λ_ g hg=>by cases hg;exact hg1⟩,hb2⟩
theorem lift_perm {α β:Type}{f:α->β}:∀{m:List β} {q:List α},(q.map f).Perm m->∃q0:List α,q0.Perm q/\q0.map f=m
  |[],q,h=>by
    have:q=[]:=List.map_eq_nil_iff.1 h.eq_nil
    subst this
    exact⟨[],List.Perm.refl _,rfl⟩
  |b::m,q,h=>by
    obtain⟨x,hx,e⟩:=List.mem_map.1 (h.mem_iff.2 (List.mem_cons_self))
    obtain⟨s,t,rfl⟩:=List.append_of_mem hx
    have hp:(s++x::t).Perm (x::(s++t)):=List.perm_middle
    have h':((s++t).map f).Perm m:=by
      have:=(hp.map f).symm.trans h
      rw[List.map_cons,e] at this
      exact(List.perm_cons b).1 this
    obtain⟨q0,h1,h2⟩:=lift_perm h'
    exact⟨x::q0,(h1.cons x).trans hp.symm,by rw[List.map_cons,e,h2]⟩
theorem rkG_more {α:Type}{lane:α->Nat}{q:List α}{L:Nat}(h:∀x∈q,lane x<L):∀M,rkG lane q (L+M)=rkG lane q L
  |0=>rfl
  |M+1=>by
    rw[<-Nat.add_assoc,rkG_succ,rkG_more h M]
    have:(q.filter λx=>lane x==L+M)=[]:=List.filter_eq_nil_iff.2 λx hx=>by
      have:=h x hx
      simp;omega
    rw[this,List.append_nil]
theorem YardIs.ranks {w:World}{S:Nat->Prop}{yb mb n0:Nat}{c:Cfg}{s:Ts}{q:List Pw}{sb:Nat}{qv ov:Value}{x:Xt}(h:YardIs w S yb mb n0 c s q sb qv ov x)(hI:s.Inv c)(hc:c.Ok):
    ∃q0:List Pw,q0.Perm q/\q0.map Prod.fst=s.queue/\(q0.Pairwise λx y=>ordOf x<ordOf y)/\(rkG (laneOf c.age) q0 1000).map Prod.fst=s.ranked c/\(rkG (laneOf c.age) q0 1000).Perm q:=by
  obtain⟨q0,h1,h2⟩:=lift_perm h.qs
  have hl:∀y∈s.queue,laneC c.age y<4:=λy hy=>by
    have h3:=(hI.top y hy).2.1
    have h4:=hc.1.2
    exact Nat.lt_of_le_of_lt (Nat.sub_le _ _) (by omega)
  refine⟨q0,h1,h2,?_,?_,?_⟩
  · have:=hI.ord
    rw[<-h2,List.pairwise_map] at this
    exact this
  · have:=rkG_map (laneC c.age) (Prod.fst:Pw->Ch) q0 1000
    rw[h2] at this
    rw[Ts.ranked,<-rkG_more hl 996]
    exact this.symm
  · refine(rkG_perm λy hy=>?_).trans h1
    have:y.1∈s.queue:=by rw[<-h2];exact List.mem_map_of_mem hy
    have:=hl _ this
    exact Nat.lt_of_lt_of_le this (by omega)
theorem YardIs.small {w:World}{S:Nat->Prop}{yb mb n0:Nat}{c:Cfg}{s:Ts}{q:List Pw}{sb:Nat}{qv ov:Value}{x:Xt}(h:YardIs w S yb mb n0 c s q sb qv ov x)(hI:s.Inv c)(hc:c.Ok)(hi:s.ids.length<1048576000):
    (∀y∈q,y.1.lane<1000/\y.1.passed<4611686018427387904/\IsSl y.2)/\q.length<=16:=by
  refine⟨λy hy=>?_,?_⟩
  · have hm:y.1∈s.queue:=h.qs.mem_iff.1 (List.mem_map_of_mem hy)
    obtain⟨t1,t2,t3,t4⟩:=hI.top _ hm
    have:=hc.1.2
    exact⟨by omega,by omega,h.sl y hy⟩
  · rw[h.qlen]
    exact Nat.le_trans hI.len hc.2.2.2.2.2.2.2
end Go.Proofs.YtgamgomepdfgdaaGreat
