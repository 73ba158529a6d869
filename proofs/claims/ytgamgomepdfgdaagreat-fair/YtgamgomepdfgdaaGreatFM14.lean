import Derived.Lib.SliceRun
import Derived.Test.YtgamgomepdfgdaaGreatFM12
import Derived.Test.YtgamgomepdfgdaaGreatFM10
set_option maxRecDepth 100000
set_option maxHeartbeats 8000000
namespace Go.Proofs.YtgamgomepdfgdaaGreat
open Go.RowKit Go.Proofs.Tryz
def laneOf (age:Nat)(x:Pw):Nat:=x.1.lane-x.1.passed/age
theorem yLane (age i l p o:Nat)(ea:Option Addr)(en ec:Nat)(w:World)(ha:1<=age/\age<9)(hl:l<1000)(hp:p<4611686018427387904):
    Calls prog 297 #[.agg #[.int .i64 i,.int .i64 l,.int .i64 p,.int .i64 age,.int .i64 o,.slice ea en ec]] w λe w'=>e=.returned (.int .i64 ((l-p/age:Nat):Int))/\Below w.heap.size w w'/\w.drawn<=w'.drawn:=by
  have hne:((age:Int)==0)=false:=by simp;omega
  obtain⟨d,hd⟩:∃d,d=p/age:=⟨_,rfl⟩
  have hq:Int.tdiv (p:Int) (age:Int)=(d:Int):=by rw[hd,Int.ofNat_tdiv]
  have hq2:(p:Int)/(age:Int)=(d:Int):=by rw[hd,Int.natCast_ediv]
  have hb:d<=p:=by rw[hd];exact Nat.div_le_self _ _
  rw[<-hd]
  clear hd
  have hw:IntKind.i64.wrap ((l:Int)-d)=(l:Int)-d:=wrap_i64 (by omega) (by omega)
  have hw2:wrap64 ((l:Int)-d)=(l:Int)-d:=by unfold wrap64;omega
  have hmx:max 0 ((l:Int)-d)=((l-d:Nat):Int):=by omega
  have X0:=Bx.new w #[.int .i64 i,.int .i64 l,.int .i64 p,.int .i64 age,.int .i64 o,.slice ea en ec] 193
  have x1:=X0.c 1 (.int .i64 l)
  have x2:=X0.c 2 (.int .i64 p)
  have x3:=X0.c 3 (.int .i64 age)
  clear X0
  go_enter func297,ntmps297
  go_upto_region 1 with fail
  go_region_held_law (λw'=>w'.cell? ⟨w.heap.size,1,none⟩=some (.int .i64 l)/\w'.cell? ⟨w.heap.size,2,none⟩=some (.int .i64 p)/\w'.cell? ⟨w.heap.size,3,none⟩=some (.int .i64 age)) (go_keep) (fail)
  all_goals
    go_wp2_with fail
    go_ret
    refine⟨?_,below_new_drew _ _,Nat.le_succ _⟩
    first|rfl|(rw[<-hmx];rfl)|(rw[<-hmx])
theorem below_two_drew {n:Nat}{w0 w1 w2:World}(h1:Below w0.drew.heap.size w0.drew w1)(h2:Below w1.heap.size w1 w2)(hn:n<=w0.heap.size):Below n w0 w2:=
  ⟨h2.os.trans h1.os,h2.tape.trans h1.tape,h2.output.trans h1.output,Nat.le_trans h1.size h2.size,λk hk=>(h2.block k (Nat.lt_of_lt_of_le hk (Nat.le_trans hn h1.size))).trans (h1.block k (Nat.lt_of_lt_of_le hk hn))⟩
theorem yBefore (age i l p o i' l' p' o':Nat)(ea:Option Addr)(en ec:Nat)(ea':Option Addr)(en' ec':Nat)(w:World)(ha:1<=age/\age<9)(hl:l<1000)(hp:p<4611686018427387904)(hl':l'<1000)(hp':p'<4611686018427387904)(r:Bool)(hr:r=true↔(l-p/age<l'-p'/age\/(l-p/age=l'-p'/age/\o<o'))):
    Calls prog 296 #[.agg #[.int .i64 i,.int .i64 l,.int .i64 p,.int .i64 age,.int .i64 o,.slice ea en ec],.agg #[.int .i64 i',.int .i64 l',.int .i64 p',.int .i64 age,.int .i64 o',.slice ea' en' ec']] w λe w'=>e=.returned (.bool r)/\Below w.heap.size w w'/\w.drawn<=w'.drawn:=by
  have hB0:Below w.heap.size w ((w.alloc (.cells #[.int .i64 i,.int .i64 l,.int .i64 p,.int .i64 age,.int .i64 o,.slice ea en ec] 193)).alloc (.cells #[.int .i64 i',.int .i64 l',.int .i64 p',.int .i64 age,.int .i64 o',.slice ea' en' ec'] 193)):=below_then (below_new _ _) (below_new _ _)
  have hN0:w.drawn<=((w.alloc (.cells #[.int .i64 i,.int .i64 l,.int .i64 p,.int .i64 age,.int .i64 o,.slice ea en ec] 193)).alloc (.cells #[.int .i64 i',.int .i64 l',.int .i64 p',.int .i64 age,.int .i64 o',.slice ea' en' ec'] 193)).drawn:=Nat.le_refl _
  have X0:=(Bx.new w #[.int .i64 i,.int .i64 l,.int .i64 p,.int .i64 age,.int .i64 o,.slice ea en ec] 193).mk (.cells #[.int .i64 i',.int .i64 l',.int .i64 p',.int .i64 age,.int .i64 o',.slice ea' en' ec'] 193)
  have X1:=Bx.new (w.alloc (.cells #[.int .i64 i,.int .i64 l,.int .i64 p,.int .i64 age,.int .i64 o,.slice ea en ec] 193)) #[.int .i64 i',.int .i64 l',.int .i64 p',.int .i64 age,.int .i64 o',.slice ea' en' ec'] 193
  have e1:(w.alloc (.cells #[.int .i64 i,.int .i64 l,.int .i64 p,.int .i64 age,.int .i64 o,.slice ea en ec] 193)).heap.size=w.heap.size+1:=by simp
  rw[e1] at X1
  clear e1
  go_enter func296,ntmps296
  go_upto_region 1 with fail
  generalize (w.alloc (.cells #[.int .i64 i,.int .i64 l,.int .i64 p,.int .i64 age,.int .i64 o,.slice ea en ec] 193)).alloc (.cells #[.int .i64 i',.int .i64 l',.int .i64 p',.int .i64 age,.int .i64 o',.slice ea' en' ec'] 193)=w0 at *
  have a0:w0.cell? ⟨w.heap.size,0,none⟩=some (.int .i64 i):=X0.cell (i:=0) rfl
  have a1:w0.cell? ⟨w.heap.size,1,none⟩=some (.int .i64 l):=X0.cell (i:=1) rfl
  have a2:w0.cell? ⟨w.heap.size,2,none⟩=some (.int .i64 p):=X0.cell (i:=2) rfl
  have a3:w0.cell? ⟨w.heap.size,3,none⟩=some (.int .i64 age):=X0.cell (i:=3) rfl
  have a4:w0.cell? ⟨w.heap.size,4,none⟩=some (.int .i64 o):=X0.cell (i:=4) rfl
  have a5:w0.cell? ⟨w.heap.size,5,none⟩=some (.slice ea en ec):=X0.cell (i:=5) rfl
  have b0:w0.cell? ⟨w.heap.size+1,0,none⟩=some (.int .i64 i'):=X1.cell (i:=0) rfl
  have b1:w0.cell? ⟨w.heap.size+1,1,none⟩=some (.int .i64 l'):=X1.cell (i:=1) rfl
  have b2:w0.cell? ⟨w.heap.size+1,2,none⟩=some (.int .i64 p'):=X1.cell (i:=2) rfl
  have b3:w0.cell? ⟨w.heap.size+1,3,none⟩=some (.int .i64 age):=X1.cell (i:=3) rfl
  have b4:w0.cell? ⟨w.heap.size+1,4,none⟩=some (.int .i64 o'):=X1.cell (i:=4) rfl
  have b5:w0.cell? ⟨w.heap.size+1,5,none⟩=some (.slice ea' en' ec'):=X1.cell (i:=5) rfl
  have HB0:Hid (Below w.heap.size w w0):=hB0
  have HN0:Hid (w.drawn<=w0.drawn):=hN0
  have Hr:Hid (r=true↔(l-p/age<l'-p'/age\/(l-p/age=l'-p'/age/\o<o'))):=hr
  clear hB0 hN0 X0 X1 hr
  go_cut [5,6] from 7 (λu v wz=>u=.int .i64 ((l-p/age:Nat):Int)/\v=.int .i64 ((l'-p'/age:Nat):Int)/\wz.cell? ⟨w.heap.size,4,none⟩=some (.int .i64 o)/\wz.cell? ⟨w.heap.size+1,4,none⟩=some (.int .i64 o')/\Below w.heap.size w wz/\w.drawn<=wz.drawn)
  case first=>
    go_region_held_law (λw'=>w'.cell? ⟨w.heap.size,0,none⟩=some (.int .i64 i)/\w'.cell? ⟨w.heap.size,1,none⟩=some (.int .i64 l)/\w'.cell? ⟨w.heap.size,2,none⟩=some (.int .i64 p)/\w'.cell? ⟨w.heap.size,3,none⟩=some (.int .i64 age)/\w'.cell? ⟨w.heap.size,4,none⟩=some (.int .i64 o)/\w'.cell? ⟨w.heap.size,5,none⟩=some (.slice ea en ec)/\w'.cell? ⟨w.heap.size+1,0,none⟩=some (.int .i64 i')/\w'.cell? ⟨w.heap.size+1,1,none⟩=some (.int .i64 l')/\w'.cell? ⟨w.heap.size+1,2,none⟩=some (.int .i64 p')/\w'.cell? ⟨w.heap.size+1,3,none⟩=some (.int .i64 age)/\w'.cell? ⟨w.heap.size+1,4,none⟩=some (.int .i64 o')/\w'.cell? ⟨w.heap.size+1,5,none⟩=some (.slice ea' en' ec')) (go_keep) (first|(go_at_call 297;go_fit (yLane age i l p o ea en ec _ ha hl hp);rintro e w2 ⟨rfl,hb2,hn2⟩;have da0:=jcell_after hb2 ca0;have da1:=jcell_after hb2 ca1;have da2:=jcell_after hb2 ca2;have da3:=jcell_after hb2 ca3;have da4:=jcell_after hb2 ca4;have da5:=jcell_after hb2 ca5;have db0:=jcell_after hb2 cb0;have db1:=jcell_after hb2 cb1;have db2:=jcell_after hb2 cb2;have db3:=jcell_after hb2 cb3;have db4:=jcell_after hb2 cb4;have db5:=jcell_after hb2 cb5;have HB2:Hid (Below _ _ w2):=hb2;have HN2:Hid (_<=w2.drawn):=hn2;clear hb2 hn2)|(go_at_call 297;go_fit (yLane age i' l' p' o' ea' en' ec' _ ha hl' hp');rintro e w2 ⟨rfl,hb2,hn2⟩;have da0:=jcell_after hb2 ca0;have da1:=jcell_after hb2 ca1;have da2:=jcell_after hb2 ca2;have da3:=jcell_after hb2 ca3;have da4:=jcell_after hb2 ca4;have da5:=jcell_after hb2 ca5;have db0:=jcell_after hb2 cb0;have db1:=jcell_after hb2 cb1;have db2:=jcell_after hb2 cb2;have db3:=jcell_after hb2 cb3;have db4:=jcell_after hb2 cb4;have db5:=jcell_after hb2 cb5;have HB2:Hid (Below _ _ w2):=hb2;have HN2:Hid (_<=w2.drawn):=hn2;clear hb2 hn2)|(go_at_call 297;go_fit (yLane age i l p o ea en ec _ ha hl hp);rintro e w1 ⟨rfl,hb1,hn1⟩;have ca0:=jcell_after hb1 a0;have ca1:=jcell_after hb1 a1;have ca2:=jcell_after hb1 a2;have ca3:=jcell_after hb1 a3;have ca4:=jcell_after hb1 a4;have ca5:=jcell_after hb1 a5;have cb0:=jcell_after hb1 b0;have cb1:=jcell_after hb1 b1;have cb2:=jcell_after hb1 b2;have cb3:=jcell_after hb1 b3;have cb4:=jcell_after hb1 b4;have cb5:=jcell_after hb1 b5;have HB1:Hid (Below _ _ w1):=hb1;have HN1:Hid (_<=w1.drawn):=hn1;clear hb1 hn1)|(go_at_call 297;go_fit (yLane age i' l' p' o' ea' en' ec' _ ha hl' hp');rintro e w1 ⟨rfl,hb1,hn1⟩;have ca0:=jcell_after hb1 a0;have ca1:=jcell_after hb1 a1;have ca2:=jcell_after hb1 a2;have ca3:=jcell_after hb1 a3;have ca4:=jcell_after hb1 a4;have ca5:=jcell_after hb1 a5;have cb0:=jcell_after hb1 b0;have cb1:=jcell_after hb1 b1;have cb2:=jcell_after hb1 b2;have cb3:=jcell_after hb1 b3;have cb4:=jcell_after hb1 b4;have cb5:=jcell_after hb1 b5;have HB1:Hid (Below _ _ w1):=hb1;have HN1:Hid (_<=w1.drawn):=hn1;clear hb1 hn1))
    all_goals
      go_wp2_with fail
      go_meet
      case rel=>exact⟨rfl,rfl,da4,db4,HB0.out.trans (below_two_drew HB1.out HB2.out HB0.out.size),Nat.le_trans (Nat.le_trans (Nat.le_trans HN0.out (Nat.le_succ _)) HN1.out) HN2.out⟩
  case rest=>
    obtain⟨rfl,rfl,g4,h4,hW,hN⟩:=hcut
    rename World=>W
    have HW:Hid (Below w.heap.size w W):=hW
    generalize l-p/age=x at *
    generalize l'-p'/age=y at *
    have HN:Hid (w.drawn<=W.drawn):=hN
    clear hN hW a0 a1 a2 a3 a4 a5 b0 b1 b2 b3 b4 b5 HB0
    by_cases hxy:x=y
    · subst hxy
      have e:Hid (decide (o<o')=r):=by
        show _=_
        rw[Bool.eq_iff_iff,Hr.out,decide_eq_true_eq];omega
      go_wp2_with fail
      go_ret
      exact⟨by rw[<-e.out];rfl,HW.out,HN.out⟩
    · have hne:((x:Int)==(y:Int))=false:=by simp;omega
      have hne2:¬((x:Int)=(y:Int)):=by omega
      have e:Hid (decide (x<y)=r):=by
        show _=_
        rw[Bool.eq_iff_iff,Hr.out,decide_eq_true_eq];omega
      go_wp2_with fail
      go_ret
      exact⟨by rw[<-e.out];rfl,HW.out,HN.out⟩
theorem meth (n:Nat)(v:Value)(W:World):(method (n+1) 193 v "Before").run prog W=.ok (296,v) W:=by kernel_rfl
theorem yCmp (age i l p o i' l' p' o':Nat)(ea:Option Addr)(en ec:Nat)(ea':Option Addr)(en' ec':Nat)(w:World)(ha:1<=age/\age<9)(hl:l<1000)(hp:p<4611686018427387904)(hl':l'<1000)(hp':p'<4611686018427387904)(r s:Bool)(hr:r=true↔(l-p/age<l'-p'/age\/(l-p/age=l'-p'/age/\o<o')))(hs:s=true↔(l'-p'/age<l-p/age\/(l'-p'/age=l-p/age/\o'<o))):
    Calls prog 156 #[.agg #[.int .i64 i,.int .i64 l,.int .i64 p,.int .i64 age,.int .i64 o,.slice ea en ec],.agg #[.int .i64 i',.int .i64 l',.int .i64 p',.int .i64 age,.int .i64 o',.slice ea' en' ec']] w λe w'=>e=.returned (.int .i64 (if r then -1 else if s then 1 else 0))/\Below w.heap.size w w'/\w.drawn<=w'.drawn:=by
  have hA:∀W,Calls prog 296 #[.agg #[.int .i64 i,.int .i64 l,.int .i64 p,.int .i64 age,.int .i64 o,.slice ea en ec],.agg #[.int .i64 i',.int .i64 l',.int .i64 p',.int .i64 age,.int .i64 o',.slice ea' en' ec']] W λe w'=>e=.returned (.bool r)/\Below W.heap.size W w'/\W.drawn<=w'.drawn:=λW=>yBefore age i l p o i' l' p' o' ea en ec ea' en' ec' W ha hl hp hl' hp' r hr
  have hB:∀W,Calls prog 296 #[.agg #[.int .i64 i',.int .i64 l',.int .i64 p',.int .i64 age,.int .i64 o',.slice ea' en' ec'],.agg #[.int .i64 i,.int .i64 l,.int .i64 p,.int .i64 age,.int .i64 o,.slice ea en ec]] W λe w'=>e=.returned (.bool s)/\Below W.heap.size W w'/\W.drawn<=w'.drawn:=λW=>yBefore age i' l' p' o' i l p o ea' en' ec' ea en ec W ha hl' hp' hl hp s hs
  have HA:Hid _:=hA
  have HBB:Hid _:=hB
  have hB0:Below w.heap.size w ((w.alloc (.cells #[.int .i64 i,.int .i64 l,.int .i64 p,.int .i64 age,.int .i64 o,.slice ea en ec] 193)).alloc (.cells #[.int .i64 i',.int .i64 l',.int .i64 p',.int .i64 age,.int .i64 o',.slice ea' en' ec'] 193)):=below_then (below_new _ _) (below_new _ _)
  clear hA hB hr hs hl hp hl' hp'
  have hM:∀(v:Value) (W:World),Sem.run prog (method 460 193 v "Before") W=.ok (296,v) W:=λv W=>meth 459 v W
  go_enter func156,ntmps156
  go_wp2_with fail
  go_fit (HA.out _)
  rintro e w1 ⟨rfl,hb1,hn1⟩
  have X0:=(Bx.new w #[.int .i64 i,.int .i64 l,.int .i64 p,.int .i64 age,.int .i64 o,.slice ea en ec] 193).mk (.cells #[.int .i64 i',.int .i64 l',.int .i64 p',.int .i64 age,.int .i64 o',.slice ea' en' ec'] 193)
  have X1:=Bx.new (w.alloc (.cells #[.int .i64 i,.int .i64 l,.int .i64 p,.int .i64 age,.int .i64 o,.slice ea en ec] 193)) #[.int .i64 i',.int .i64 l',.int .i64 p',.int .i64 age,.int .i64 o',.slice ea' en' ec'] 193
  have e1:(w.alloc (.cells #[.int .i64 i,.int .i64 l,.int .i64 p,.int .i64 age,.int .i64 o,.slice ea en ec] 193)).heap.size=w.heap.size+1:=by simp
  rw[e1] at X1
  have a0:w1.cell? ⟨w.heap.size,0,none⟩=some (.int .i64 i):=jcell_after hb1 (X0.cell (i:=0) rfl)
  have a1:w1.cell? ⟨w.heap.size,1,none⟩=some (.int .i64 l):=jcell_after hb1 (X0.cell (i:=1) rfl)
  have a2:w1.cell? ⟨w.heap.size,2,none⟩=some (.int .i64 p):=jcell_after hb1 (X0.cell (i:=2) rfl)
  have a3:w1.cell? ⟨w.heap.size,3,none⟩=some (.int .i64 age):=jcell_after hb1 (X0.cell (i:=3) rfl)
  have a4:w1.cell? ⟨w.heap.size,4,none⟩=some (.int .i64 o):=jcell_after hb1 (X0.cell (i:=4) rfl)
  have a5:w1.cell? ⟨w.heap.size,5,none⟩=some (.slice ea en ec):=jcell_after hb1 (X0.cell (i:=5) rfl)
  have b0:w1.cell? ⟨w.heap.size+1,0,none⟩=some (.int .i64 i'):=jcell_after hb1 (X1.cell (i:=0) rfl)
  have b1:w1.cell? ⟨w.heap.size+1,1,none⟩=some (.int .i64 l'):=jcell_after hb1 (X1.cell (i:=1) rfl)
  have b2:w1.cell? ⟨w.heap.size+1,2,none⟩=some (.int .i64 p'):=jcell_after hb1 (X1.cell (i:=2) rfl)
  have b3:w1.cell? ⟨w.heap.size+1,3,none⟩=some (.int .i64 age):=jcell_after hb1 (X1.cell (i:=3) rfl)
  have b4:w1.cell? ⟨w.heap.size+1,4,none⟩=some (.int .i64 o'):=jcell_after hb1 (X1.cell (i:=4) rfl)
  have b5:w1.cell? ⟨w.heap.size+1,5,none⟩=some (.slice ea' en' ec'):=jcell_after hb1 (X1.cell (i:=5) rfl)
  have HB1:Hid (Below w.heap.size w w1):=hB0.trans (hb1.mono hB0.size)
  have HN1:Hid (w.drawn<=w1.drawn):=hn1
  clear hn1
  have hB1:=HBB.out w1
  clear X0 X1 e1 hb1 hB0 HA HBB
  cases r
  · go_wp2_with fail
    go_fit hB1
    rintro e w2 ⟨rfl,hb2,hn2⟩
    have HB2:Hid (Below w.heap.size w w2):=HB1.out.trans (hb2.mono HB1.out.size)
    have HN2:Hid (w.drawn<=w2.drawn):=Nat.le_trans HN1.out hn2
    clear hn2 hb2 hB1 a0 a1 a2 a3 a4 a5 b0 b1 b2 b3 b4 b5
    cases s
    · go_wp2_with fail
      go_ret
      exact⟨rfl,HB2.out,HN2.out⟩
    · go_wp2_with fail
      go_ret
      exact⟨rfl,HB2.out,HN2.out⟩
  · go_wp2_with fail
    go_ret
    exact⟨rfl,HB1.out,HN1.out⟩
theorem yClone (q:List Pw)(age g off cap:Nat)(w:World)(hS:Sl w 193 6 (.slice (some ⟨g,off,none⟩) q.length cap) q.length (q.flatMap (cP age)))(hsl:∀x∈q,IsSl x.2)(hn:q.length<=16)(hpos:0<q.length):
    Calls prog 154 #[.slice (some ⟨g,off,none⟩) q.length cap] w λe w'=>(∃v',e=.returned v'/\w'.ownsRow w.heap.size 193 6 v' q.length (q.flatMap (cP age)))/\Below w.heap.size w w':=by
  obtain⟨i0,hi,hz0,hz1,hz2⟩:=info_parts info_pw
  have HS:Hid (∀o,∀j u,(q.flatMap (cP age))[j]? =some u->(w.alloc o).cell? ((⟨g,off,none⟩:Addr).add j)=some u):=λo j u hu=>by
    have e:(⟨g,off,none⟩:Addr).add j=⟨g,off+j,none⟩:=by
      unfold Addr.add
      by_cases h:j=0
      · subst h;simp
      · simp[h]
    rw[e]
    exact(hS.mk o).cell hu
  have h1:Hid (∀u∈q.flatMap (cP age),u.oneCell'=true):=λu hu=>by
    obtain⟨x,hx,hu⟩:=List.mem_flatMap.1 hu
    obtain⟨a,n,c,hv⟩:=hsl x hx
    simp only[cP,List.mem_cons,List.not_mem_nil,or_false] at hu
    rcases hu with rfl|rfl|rfl|rfl|rfl|rfl
    · rfl
    · rfl
    · rfl
    · rfl
    · rfl
    · rw[hv];rfl
  have hle:Hid ((q.flatMap (cP age)).length=q.length*6):=flat_len (cP age) 6 (λ_=>rfl) q
  have q1:Hid (0+q.length<=maxLen):=by show _<=_;unfold maxLen;omega
  have q2:Hid ((0+q.length)*64<=140737488355328):=by show _<=_;omega
  have q3:Hid (0<0+q.length):=by show _<_;omega
  have hnil:∀W:World,(binOp .eql 190 (.slice (some ⟨g,off,none⟩) q.length cap) (.slice none 0 0)).run prog W=.ok (.bool false) W:=λW=>Lib.run_eql_slice_nil W _ _ _ _ _ _ _ underlying190
  clear hS hsl
  go_enter func154,ntmps154
  go_wp2_with (at_builtin;refine wpList_append_grows _ rfl _ _ 190 rfl _ i0 _ 6 64 underlying190 hi hz0 hz1 hz2 rfl (by decide) (some ⟨w.heap.size,0,none⟩) 0 0 [] rfl (by intro h;cases h) rfl (by intro _ _ j u hu;simp at hu) ⟨g,off,none⟩ q.length cap (q.flatMap (cP age)) rfl hle.out (HS.out _) h1.out q3.out q1.out q2.out ?_;intro v3 w3 hown3 hg3)
  have hb3:Below w.heap.size w w3:=(below_new _ _).grown hg3 (by simp) (by simp)
  have hr3:w3.ownsRow w.heap.size 193 6 v3 q.length (q.flatMap (cP age)):=by
    have:=row_low hown3 (base':=w.heap.size) (by simp)
    simpa using this
  obtain⟨a3,c3,rfl⟩:=row_shape3 hr3
  go_wp2_with fail
  go_ret
  exact⟨⟨_,rfl,hr3⟩,hb3⟩
end Go.Proofs.YtgamgomepdfgdaaGreat
