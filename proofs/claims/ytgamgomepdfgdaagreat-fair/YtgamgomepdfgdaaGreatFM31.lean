import Derived.Test.YtgamgomepdfgdaaGreatFM20
import Derived.Test.YtgamgomepdfgdaaGreatFM30
set_option maxRecDepth 100000
set_option maxHeartbeats 8000000
namespace Go.Proofs.YtgamgomepdfgdaaGreat
open Go.RowKit Go.Proofs.Tryz
theorem segPassedC (p b:Nat)(w:World)(c2:w.cell? ⟨p,2,none⟩=some (.int .i64 b)):
    Calls prog 189 #[.pointer (some ⟨p,0,none⟩)] w λe w'=>e=.returned (.bool (b !=0))/\w'=w:=by
  by_cases hb:b=0
  · subst hb
    go_enter func189,ntmps189
    go_wp2
    go_ret
    exact⟨rfl,rfl⟩
  · obtain⟨r,hr⟩:∃r:Bool,r=(b !=0):=⟨_,rfl⟩
    rw[<-hr]
    obtain rfl:r=true:=by rw[hr];simpa using hb
    clear hr
    have hne:((b:Int) !=0)=true:=by simp;omega
    have hne2:((b:Int)==0)=false:=by simp;omega
    go_enter func189,ntmps189
    go_wp2
    go_ret
    exact⟨rfl,rfl⟩
theorem new_block {W w3:World}{b:Nat}{o:Obj}(hb3:Below W.heap.size W w3)(hW:W.heap[b]? =some o):w3.heap[b]? =some o:=(hb3.block b (Array.getElem?_eq_some_iff.1 hW).1).trans hW
theorem new_dr {W:World}{b:Nat}{o:Obj}(h:W.heap[b]? =some o):W.drew.heap[b]? =some o:=h
theorem alloc_at {W:World}{b:Nat}{o:Obj}(h:b=W.heap.size):(W.alloc o).heap[b]? =some o:=by rw[h];exact World.alloc_heap_new W o
theorem tell_put {w1 W:World}{n b base k:Nat}{v0 v1 v2 v3 a0 a1 a2 a3 rv:Value}{xs:List Value}(hb:Below n w1 W)(hB:Bx W b 119 #[a0,a1,a2,a3])(hn:n<=b)(hr:W.ownsRow base 3 1 rv k xs):
    Bx ((((W.setCell ⟨b,0,none⟩ v0).setCell ⟨b,1,none⟩ v1).setCell ⟨b,2,none⟩ v2).setCell ⟨b,3,none⟩ v3) b 119 #[v0,v1,v2,v3]/\Below n w1 ((((W.setCell ⟨b,0,none⟩ v0).setCell ⟨b,1,none⟩ v1).setCell ⟨b,2,none⟩ v2).setCell ⟨b,3,none⟩ v3)/\World.ownsRow ((((W.setCell ⟨b,0,none⟩ v0).setCell ⟨b,1,none⟩ v1).setCell ⟨b,2,none⟩ v2).setCell ⟨b,3,none⟩ v3) base 3 1 rv k xs:=by
  have hl:=hB.lt
  have O:Only W ((((W.setCell ⟨b,0,none⟩ v0).setCell ⟨b,1,none⟩ v1).setCell ⟨b,2,none⟩ v2).setCell ⟨b,3,none⟩ v3) (λk=>k=b):=((((Only.refl W (λk=>k=b)).set (b:=b) (.inl rfl)).set (b:=b) (.inl rfl)).set (b:=b) (.inl rfl)).set (b:=b) (.inl rfl)
  have K:=KeepT.of_only (ts:=[119]) O λk e=>⟨119,by simp,by rw[e];exact hB.ty⟩
  exact⟨(((hB.set 0 v0).set 1 v1).set 2 v2).set 3 v3,⟨O.os.trans hb.os,O.tape.trans hb.tape,O.output.trans hb.output,Nat.le_trans hb.size O.size,λk hk=>(O.block k (by omega) (by omega)).trans (hb.block k hk)⟩,K.row hr (by decide)⟩
theorem tell_both {w1 W W':World}{n k:Nat}{rv:Value}{xs:List Value}(h2:Below W.heap.size W W')(hr:W'.ownsRow W.heap.size 3 1 rv k xs)(hn:w1.heap.size=n)(h1:Below w1.heap.size w1 W):Below n w1 W'/\W'.ownsRow n 3 1 rv k xs:=by
  subst hn
  exact⟨h1.trans (h2.mono h1.size),row_low hr h1.size⟩
theorem hidd {p:Prop}(h:p):Hid p:=h
theorem below_al {w W:World}{o:Obj}(h:Below w.heap.size w W):Below w.heap.size w (W.alloc o):=h.trans ((below_new W o).mono h.size)
theorem below_dr {w W:World}(h:Below w.heap.size w W):Below w.heap.size w W.drew:=⟨h.os,h.tape,h.output,h.size,h.block⟩
theorem segTell {S:Nat->Prop}{N p:Nat}{x:Sm}{cv jv:Value}{cl:List Cw}{w:World}(h:SegIs w S N p x cv jv cl)(hn:cl.length<=8):
    Calls prog 148 #[ptr p] w λe w'=>(∃v',e=.returned (.agg #[v',.int .i64 x.fails,.bool (x.by_ !=0),.int .i64 (jobN x.job)])/\w'.ownsRow w.heap.size 3 1 v' cl.length (cl.map λy=>cI y.1.1))/\Below w.heap.size w w':=by
  have hB:=h.box
  have c1:w.cell? ⟨p,1,none⟩=some (.int .i64 x.fails):=hB.cell (i:=1) rfl
  have c2:w.cell? ⟨p,2,none⟩=some (.int .i64 x.by_):=hB.cell (i:=2) rfl
  have c3:w.cell? ⟨p,3,none⟩=some jv:=hB.cell (i:=3) rfl
  have hpl:=hB.lt
  have HB:Hid (Bx w p 240 (segCells cv x.fails x.by_ jv)):=hB
  have HS:Hid (Sl w 273 2 cv cl.length (cl.flatMap cC)):=h.chs.row
  have HSL:Hid (∀y∈cl,IsSl y.2):=h.chs.sl
  have HI:Hid (∀W,Below w.heap.size w W->Calls prog 149 #[.pointer (some ⟨p,0,none⟩)] W λe w'=>(∃v',e=.returned v'/\w'.ownsRow W.heap.size 3 1 v' cl.length (cl.map λy=>cI y.1.1))/\Below W.heap.size W w'):=λW hb=>segIds p _ cv cl W (HB.out.later hb) rfl (HS.out.later hb) HSL.out hn
  have HJ:Hid (JobIs w S N jv x.job):=h.job
  have hjp:∃pj,jv=.pointer pj:=by
    have:=h.job
    cases ej:x.job with
    |none=>rw[ej] at this;exact⟨_,this⟩
    |some j=>rw[ej] at this;obtain⟨b,tv,fl,e,_⟩:=this;exact⟨_,e⟩
  obtain⟨pj,rfl⟩:=hjp
  obtain⟨fl,hfl⟩:∃fl,fl=x.fails:=⟨_,rfl⟩
  obtain⟨bb,hbb⟩:∃bb,bb=x.by_:=⟨_,rfl⟩
  rw[<-hfl] at c1 HB ⊢
  rw[<-hbb] at c2 HB ⊢
  clear h hB hfl hbb
  unfold ptr
  go_enter func148,ntmps148
  go_upto_region 1 with fail
  go_cut [3] from 4 (λv3 wz=>∃b3 v',v3=.pointer (some ⟨b3,0,none⟩)/\w.heap.size<b3/\Hid (wz.ownsRow (w.heap.size+1) 3 1 v' cl.length (cl.map λy=>cI y.1.1))/\Hid (Bx wz b3 119 #[v',.int .i64 fl,.bool (bb !=0),.int .i64 0])/\Hid (Below (w.heap.size+1) (w.alloc (.cells #[.slice none 0 0,.int .i64 0,.bool false,.int .i64 0] 119)) wz))
  case first=>
    clear c3
    have HS1:Hid ((w.alloc (.cells #[.slice none 0 0,.int .i64 0,.bool false,.int .i64 0] 119)).heap.size=w.heap.size+1):=World.size_alloc ..
    have nw2:w.heap.size+1≠p:=by omega
    have d1:(w.alloc (.cells #[.slice none 0 0,.int .i64 0,.bool false,.int .i64 0] 119)).cell? ⟨p,1,none⟩=some (.int .i64 fl):=(HB.out.mk _).cell (i:=1) rfl
    have d2:(w.alloc (.cells #[.slice none 0 0,.int .i64 0,.bool false,.int .i64 0] 119)).cell? ⟨p,2,none⟩=some (.int .i64 bb):=(HB.out.mk _).cell (i:=2) rfl
    go_region_held_law (λw'=>w'.cell? ⟨p,1,none⟩=some (.int .i64 fl)/\w'.cell? ⟨p,2,none⟩=some (.int .i64 bb)) (first|go_keep|(simp (maxDischargeDepth:=9) [*,World.cell?_alloc_some])) (first|(go_at_call 149;refine(HI.out _ (by (repeat (first|refine below_dr ?_|refine below_al ?_));exact Below.refl _ _)).mono ?_;rintro e w3 ⟨⟨v3,rfl,hr3⟩,hb3⟩;obtain⟨a3,k3,rfl⟩:=row_shape3 hr3;have x1:w3.cell? ⟨p,1,none⟩=some (.int .i64 fl):=jcell_after hb3 (jcell_after (w:=w) (by (repeat (first|refine below_dr ?_|refine below_al ?_));exact Below.refl _ _) c1);have x2:w3.cell? ⟨p,2,none⟩=some (.int .i64 bb):=jcell_after hb3 (jcell_after (w:=w) (by (repeat (first|refine below_dr ?_|refine below_al ?_));exact Below.refl _ _) c2);(try (have hz:Bx w3 (w.heap.size+1) 119 #[.slice none 0 0,.int .i64 0,.bool false,.int .i64 0]:=new_block hb3 (by (repeat refine new_dr ?_);exact alloc_at (by show w.heap.size+1=(w.alloc _).heap.size;exact(World.size_alloc ..).symm));have z0:=hz.c 0 (.slice none 0 0);have z1:=hz.c 1 (.int .i64 0);have z2:=hz.c 2 (.bool false);have z3:=hz.c 3 (.int .i64 0);have g0:=hz.fr 0;have g1:=hz.fr 1;have g2:=hz.fr 2;have g3:=hz.fr 3;have HZ:=hidd hz;clear hz));have n31:w3.heap.size≠p:=(by have:=jcell_lt x1;omega);have HR3:=hidd hr3;have HB3:=hidd hb3;clear hr3 hb3)|(go_at_call 189;refine(segPassedC p bb _ (by first|exact x2|exact d2|exact jcell_after (w:=w3) (by (repeat (first|refine below_dr ?_|refine below_al ?_));exact Below.refl _ _) x2|exact jcell_after (w:=w) (by (repeat (first|refine below_dr ?_|refine below_al ?_));exact Below.refl _ _) c2)).mono ?_;rintro e w4 ⟨rfl,rfl⟩))
    all_goals
      go_wp2_with fail
      go_meet
      case rel=>
        obtain⟨hb,hr⟩:=tell_both HB3.out HR3.out HS1.out (by repeat (first|exact Below.refl _ _|refine below_dr ?_|refine below_al ?_))
        have hsz:=hb.size
        have hS1:=HS1.out
        first
          |(obtain⟨h1,h2,h3⟩:=tell_put hb HZ.out (Nat.le_refl _) hr (v0:=.slice a3 cl.length k3) (v1:=.int .i64 fl) (v2:=.bool (bb !=0)) (v3:=.int .i64 0);exact⟨_,_,rfl,by omega,h3,h1,h2⟩)
          |exact⟨_,_,rfl,by omega,World.ownsRow.alloc hr _,Bx.new _ _ _,hb.trans ((below_new _ _).mono (by omega))⟩
  case rest=>
    obtain⟨b3,v',rfl,hlt,HR3,HB3,HBw⟩:=hcut
    rename World=>wz
    have hz:=HBw.out
    obtain⟨av,kv,rfl⟩:=row_shape3 HR3.out
    have hb0:Below w.heap.size w wz:=(below_new w _).trans (hz.mono (by omega))
    have e3:wz.cell? ⟨p,3,none⟩=some (.pointer pj):=jcell_after hb0 c3
    have hres:Bx wz w.heap.size 119 #[.slice none 0 0,.int .i64 0,.bool false,.int .i64 0]:=(hz.block w.heap.size (by omega)).trans (Bx.new w _ _)
    have hJz:Hid (JobIs wz S N (.pointer pj) x.job):=HJ.out.kept (λk hk _=>hb0.block k hk) (λ_ h=>h) (Nat.le_refl _)
    have HRes:Hid (Bx wz w.heap.size 119 #[.slice none 0 0,.int .i64 0,.bool false,.int .i64 0]):=hres
    have HB0:Hid (Below w.heap.size w wz):=hb0
    have hne':w.heap.size≠b3:=by omega
    have t0:=HB3.out.c 0 (.slice av cl.length kv)
    have t1:=HB3.out.c 1 (.int .i64 fl)
    have t2:=HB3.out.c 2 (.bool (bb !=0))
    have t3:=HB3.out.c 3 (.int .i64 0)
    have s0:=hres.c 0 (.slice none 0 0)
    have s1:=hres.c 1 (.int .i64 0)
    have s2:=hres.c 2 (.bool false)
    have s3:=hres.c 3 (.int .i64 0)
    have ft:=λi=>HB3.out.fr i
    have fs:=λi=>hres.fr i
    clear c1 c2 c3 HB HS HSL HI HJ hb0 hz hres HBw
    cases ej:x.job with
    |none=>
      obtain rfl:pj=none:=by
        have:=hJz.out
        rw[ej] at this
        injection this
      clear hJz
      go_wp2_with fail
      obtain⟨BW,HW,HR⟩:=tell_put HB0.out HRes.out (Nat.le_refl _) HR3.out (v0:=.slice av cl.length kv) (v1:=.int .i64 fl) (v2:=.bool (bb !=0)) (v3:=.int .i64 0)
      generalize (((wz.setCell ⟨w.heap.size,0,none⟩ (.slice av cl.length kv)).setCell ⟨w.heap.size,1,none⟩ (.int .i64 fl)).setCell ⟨w.heap.size,2,none⟩ (.bool (bb !=0))).setCell ⟨w.heap.size,3,none⟩ (.int .i64 0)=W at *
      have e0:=BW.c 0 (.slice av cl.length kv)
      have e1:=BW.c 1 (.int .i64 fl)
      have e2:=BW.c 2 (.bool (bb !=0))
      have e4:=BW.c 3 (.int .i64 0)
      exact bodyPost_ret (v:=.agg #[.slice av cl.length kv,.int .i64 fl,.bool (bb !=0),.int .i64 0]) (by simp[results,results148,go_sem,e0,e1,e2,e4]) rfl ⟨⟨_,by rw[ej];rfl,row_low HR (by omega)⟩,HW⟩
    |some j=>
      obtain⟨jb,jt,jfl,epj,hJ,-⟩:JobIs wz S N (.pointer pj) (some j):=ej▸hJz.out
      injection epj with epj
      subst epj
      have j0:wz.cell? ⟨jb,0,none⟩=some (.int .i64 j.num):=hJ.cell (i:=0) rfl
      have HRT:Hid (∀num:Int,Below w.heap.size w (wz.setCell ⟨b3,3,none⟩ (.int .i64 num))/\Bx (wz.setCell ⟨b3,3,none⟩ (.int .i64 num)) w.heap.size 119 #[.slice none 0 0,.int .i64 0,.bool false,.int .i64 0]/\World.ownsRow (wz.setCell ⟨b3,3,none⟩ (.int .i64 num)) (w.heap.size+1) 3 1 (.slice av cl.length kv) cl.length (cl.map λy=>cI y.1.1)):=by
        intro num
        have O:Only wz (wz.setCell ⟨b3,3,none⟩ (.int .i64 num)) (λk=>k=b3):=(Only.refl wz (λk=>k=b3)).set (b:=b3) (.inl rfl)
        have K:=KeepT.of_only (ts:=[119]) O λk e=>⟨119,by simp,by rw[e];exact HB3.out.ty⟩
        refine⟨below_set HB0.out (by omega) 3 _,(O.block _ HRes.out.lt (by omega)).trans HRes.out,K.row HR3.out (by decide)⟩
      clear hJz hJ
      go_wp2_with fail
      obtain⟨h1,h2,h3⟩:=HRT.out j.num
      generalize wz.setCell ⟨b3,3,none⟩ (.int .i64 j.num)=wy at *
      obtain⟨BW,HW,HR⟩:=tell_put h1 h2 (Nat.le_refl _) h3 (v0:=.slice av cl.length kv) (v1:=.int .i64 fl) (v2:=.bool (bb !=0)) (v3:=.int .i64 j.num)
      generalize (((wy.setCell ⟨w.heap.size,0,none⟩ (.slice av cl.length kv)).setCell ⟨w.heap.size,1,none⟩ (.int .i64 fl)).setCell ⟨w.heap.size,2,none⟩ (.bool (bb !=0))).setCell ⟨w.heap.size,3,none⟩ (.int .i64 j.num)=W at *
      have e0:=BW.c 0 (.slice av cl.length kv)
      have e1:=BW.c 1 (.int .i64 fl)
      have e2:=BW.c 2 (.bool (bb !=0))
      have e4:=BW.c 3 (.int .i64 j.num)
      exact bodyPost_ret (v:=.agg #[.slice av cl.length kv,.int .i64 fl,.bool (bb !=0),.int .i64 j.num]) (by simp[results,results148,go_sem,e0,e1,e2,e4]) rfl ⟨⟨_,by rw[ej];rfl,row_low HR (by omega)⟩,HW⟩
end Go.Proofs.YtgamgomepdfgdaaGreat
