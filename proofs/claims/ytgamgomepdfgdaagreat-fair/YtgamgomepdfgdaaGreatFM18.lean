import Derived.Lib.QuietBelow
import Derived.Shelf.SlMaps.Clone
import Derived.Test.YtgamgomepdfgdaaGreatFM13
set_option maxRecDepth 100000
set_option maxHeartbeats 8000000
namespace Go.Proofs.YtgamgomepdfgdaaGreat
open Go.RowKit Go.Proofs.Tryz
def RetAt (e:Ending)(p:Prop):Prop:=∃r:Int,e=.returned (.int .i64 r)/\(0<=r↔p)
theorem indexFunc_row (l:List Ed)(q:ByteArray)(b off cap bk:Nat)(w:World)(hlt:b<w.heap.size)(hbk:bk<w.heap.size)(hq:w.cell? ⟨bk,0,none⟩=some (.string q))(h0:∀i (h:i<l.length),w.cell? ⟨b,off+i*3,none⟩=some (.string l[i].1))(h1:∀i (h:i<l.length),w.cell? ⟨b,off+i*3+1,none⟩=some (.string l[i].2.1))(h2:∀i (h:i<l.length),w.cell? ⟨b,off+i*3+2,none⟩=some (.string l[i].2.2))(hn4:l.length<=4):
    Calls prog 278 #[.slice (some ⟨b,off,none⟩) l.length cap,.func (.func 274) #[] #[.pointer (some ⟨bk,0,none⟩)]] w λe w'=>RetAt e (∃x∈l,x.1=q)/\Below w.heap.size w w':=by
  go_enter func278,ntmps278
  go_wp2
  go_loopw [8] (λi wr=>∃k:Nat,k<=l.length/\i=.int .i64 k/\Below w.heap.size w wr/\Hid (∀j (h:j<k) (h':j<l.length),l[j].1≠q)) (λi _=>l.length-(intOf i).toNat)
  case atStart=>exact⟨0,Nat.zero_le _,rfl,Below.refl _ _,λj h=>by omega⟩
  case round=>
    obtain⟨k,hk,rfl,hb,hs⟩:=hrel
    obtain⟨g0,g1,g2,gb⟩:=edits_cells hb hlt h0 h1 h2
    have gq:wr.cell? ⟨bk,0,none⟩=some (.string q):=(hb.cell (by exact hbk)).trans hq
    have gk:bk<wr.heap.size:=Nat.lt_of_lt_of_le hbk hb.size
    clear h0 h1 h2 hq
    by_cases hlk:k<l.length
    · have hc:=closure_names l[k].1 l[k].2.1 l[k].2.2 q bk wr gq gk
      go_wp2_with (go_at_call 274;refine hc.mono ?_;rintro e w' ⟨rfl,rfl⟩)
      · go_ret
        exact⟨⟨k,rfl,⟨λ_=>⟨l[k],List.getElem_mem hlk,(beq_true_iff _ _).1 ‹_›⟩,λ_=>by omega⟩⟩,hb.alloc hb.size _⟩
      · go_roundw
        case rel=>exact⟨k+1,hlk,by go_num,hb.alloc hb.size _,λx hx hx'=>by
                  by_cases e:x=k
                  · subst e;exact(beq_false_iff _ _).1 ‹_›
                  · exact hs.out x (by omega) hx'⟩
        case measure=>simp[intOf];omega
    · go_wp2
      go_ret
      refine⟨⟨-1,rfl,⟨λh=>by omega,?_⟩⟩,hb⟩
      rintro⟨x,hx,hxq⟩
      obtain⟨j,hj,rfl⟩:=List.mem_iff_getElem.1 hx
      exact absurd hxq (hs.out j (by omega) hj)
theorem indexFunc_none (q:Value)(a:Option Addr)(cap:Nat)(w:World):
    Calls prog 278 #[.slice a 0 cap,q] w λe w'=>e=.returned (.int .i64 (-1))/\w'=w:=by
  go_enter func278,ntmps278
  go_wp2
  go_loop [8] (λi=>i=.int .i64 0) (λ_=>0)
  case atStart=>rfl
  case round=>
    subst hrel
    go_wp2
    go_ret
    exact⟨rfl,rfl⟩
theorem indexFunc_any (l:List Ed)(q:ByteArray)(v:Value)(bk:Nat)(w:World)(hl:EditsAt w v l)(hbk:bk<w.heap.size)(hq:w.cell? ⟨bk,0,none⟩=some (.string q))(hn4:l.length<=4):
    Calls prog 278 #[v,.func (.func 274) #[] #[.pointer (some ⟨bk,0,none⟩)]] w λe w'=>RetAt e (∃x∈l,x.1=q)/\Below w.heap.size w w':=by
  rcases hl with ⟨rfl,a,cap,rfl⟩|⟨b,off,cap,rfl,hlt,h0,h1,h2⟩
  · refine(indexFunc_none _ a cap w).mono ?_
    rintro e w' ⟨rfl,rfl⟩
    exact⟨⟨-1,rfl,⟨λh=>by omega,λh=>by obtain⟨_,h,_⟩:=h;simp at h⟩⟩,Below.refl _ _⟩
  · exact indexFunc_row l q b off cap bk w hlt hbk hq h0 h1 h2 hn4
theorem containsFunc_any (l:List Ed)(q:ByteArray)(v:Value)(bk:Nat)(w:World)(hl:EditsAt w v l)(hbk:bk<w.heap.size)(hq:w.cell? ⟨bk,0,none⟩=some (.string q))(hn4:l.length<=4):
    Calls prog 273 #[v,.func (.func 274) #[] #[.pointer (some ⟨bk,0,none⟩)]] w λe w'=>RetIff e (∃x∈l,x.1=q)/\Below w.heap.size w w':=by
  have hc:=indexFunc_any l q v bk w hl hbk hq hn4
  clear hl hq
  generalize (∃x∈l,x.1=q)=p at hc ⊢
  go_enter func273,ntmps273
  go_wp2_with (go_at_call 278;refine hc.mono ?_;rintro e w' ⟨⟨r,rfl,hr⟩,hb⟩)
  go_ret
  exact⟨⟨decide (0<=r),rfl,by rw[decide_eq_true_eq];exact hr⟩,hb⟩
theorem namesPath_any (l:List Ed)(q:ByteArray)(v:Value)(w:World)(hl:EditsAt w v l)(hn4:l.length<=4):
    Calls prog 264 #[v,.string q] w λe w'=>RetIff e (∃x∈l,x.1=q)/\Below w.heap.size w w':=by
  have hb0:Below w.heap.size w (w.alloc (.cells #[.string q] 9)):=(Below.refl _ _).alloc (Nat.le_refl _) _
  have hc:=containsFunc_any l q v w.heap.size (w.alloc (.cells #[.string q] 9)) (hl.later hb0) (by simp) (by simp) hn4
  clear hl
  generalize (∃x∈l,x.1=q)=p at hc ⊢
  go_enter func264,ntmps264
  go_wp2_with (go_at_call 273;refine hc.mono ?_;rintro e w' ⟨⟨r,rfl,hr⟩,hb⟩)
  go_ret
  exact⟨⟨r,rfl,hr⟩,hb0.trans (hb.mono (by simp))⟩
section
open Go.Sort
theorem names_val (l:List Ed)(q:ByteArray)(v:Value)(w:World)(hl:EditsAt w v l)(hn4:l.length<=4)(r:Bool)(hr:r=true↔∃x∈l,x.1=q):
    Calls prog 264 #[v,.string q] w λe w'=>e=.returned (.bool r)/\Below w.heap.size w w':=by
  refine(namesPath_any l q v w hl hn4).mono ?_
  rintro e w' ⟨⟨r',rfl,hr'⟩,hb⟩
  have:r'=r:=by
    have:=hr'.trans hr.symm
    cases r'<;>cases r<;>simp_all
  exact⟨by rw[this],hb⟩
theorem mem_take_iff (l:List Ed)(k:Nat)(hk:k<l.length):(∃x∈l.take k,x.1=l[k].1)↔∃j,∃h:j<k,(l[j]'(by omega)).1=l[k].1:=by
  constructor
  · rintro⟨x,hx,he⟩
    obtain⟨j,hj,rfl⟩:=List.mem_iff_getElem.1 hx
    rw[List.length_take] at hj
    rw[List.getElem_take] at he
    exact⟨j,by omega,he⟩
  · rintro⟨j,hj,he⟩
    exact⟨_,List.mem_iff_getElem.2 ⟨j,by rw[List.length_take];omega,by rw[List.getElem_take]⟩,he⟩
theorem edits_take {w:World}{b off cap:Nat}{l:List Ed}(k:Nat)(hk:k<=l.length)(hlt:b<w.heap.size)(h0:∀i (h:i<l.length),w.cell? ⟨b,off+i*3,none⟩=some (.string l[i].1))(h1:∀i (h:i<l.length),w.cell? ⟨b,off+i*3+1,none⟩=some (.string l[i].2.1))(h2:∀i (h:i<l.length),w.cell? ⟨b,off+i*3+2,none⟩=some (.string l[i].2.2)):
    EditsAt w (.slice (some ⟨b,off,none⟩) k cap) (l.take k):=by
  have e:(l.take k).length=k:=by rw[List.length_take];omega
  refine .inr ⟨b,off,cap,by rw[e],hlt,λi h=>?_,λi h=>?_,λi h=>?_⟩
  · rw[List.getElem_take];exact h0 i _
  · rw[List.getElem_take];exact h1 i _
  · rw[List.getElem_take];exact h2 i _
theorem below_rg {w wr:World}(hb:Below w.heap.size w wr)(o:Obj)(d:Nat)(os:Array Obj):Below w.heap.size w (grow (redrawn (wr.alloc o) d) os):=
  (hb.alloc hb.size o).trans ((below_regrown _ d os).mono (hb.alloc hb.size o).size)
theorem editsMayBe_row (l:List Ed)(b off cap:Nat)(w:World)(hlt:b<w.heap.size)(h0:∀i (h:i<l.length),w.cell? ⟨b,off+i*3,none⟩=some (.string l[i].1))(h1:∀i (h:i<l.length),w.cell? ⟨b,off+i*3+1,none⟩=some (.string l[i].2.1))(h2:∀i (h:i<l.length),w.cell? ⟨b,off+i*3+2,none⟩=some (.string l[i].2.2))(hn1:1<=l.length)(hn4:l.length<=4)(hcap:l.length<=cap):
    Calls prog 236 #[.slice (some ⟨b,off,none⟩) l.length cap] w λe w'=>RetIff e (Good okEd Prod.fst l)/\Below w.heap.size w w':=by
  go_enter func236,ntmps236
  go_wp2
  go_loopw [15] (λi wr=>∃k:Nat,k<=l.length/\i=.int .i64 k/\Below w.heap.size w wr/\Hid (Good okEd Prod.fst (l.take k))) (λi _=>l.length-(intOf i).toNat)
  case atStart=>exact⟨0,Nat.zero_le _,rfl,Below.refl _ _,Good.nil _ _⟩
  case round=>
    obtain⟨k,hk,rfl,hb,hs⟩:=hrel
    obtain⟨g0,g1,g2,gb⟩:=edits_cells hb hlt h0 h1 h2
    clear h0 h1 h2
    by_cases hlk:k<l.length
    · have hb1:Below wr.heap.size wr (wr.alloc (.cells #[.string l[k].1,.string l[k].2.1,.string l[k].2.2] 49)):=(Below.refl _ _).alloc (Nat.le_refl _) _
      have cM:=λd os=>Calls.regrown_of (d:=d) (os:=os) (w:=wr.alloc (.cells #[.string l[k].1,.string l[k].2.1,.string l[k].2.2] 49)) (editMayBe_any l[k].1 l[k].2.1 l[k].2.2 _)
      have e0:=cell_regrown (w:=wr.alloc (.cells #[.string l[k].1,.string l[k].2.1,.string l[k].2.2] 49)) (a:=⟨wr.heap.size,0,none⟩) (v:=.string l[k].1) (by simp)
      have e1:=cell_regrown (w:=wr.alloc (.cells #[.string l[k].1,.string l[k].2.1,.string l[k].2.2] 49)) (a:=⟨wr.heap.size,1,none⟩) (v:=.string l[k].2.1) (by simp)
      have e2:=cell_regrown (w:=wr.alloc (.cells #[.string l[k].1,.string l[k].2.1,.string l[k].2.2] 49)) (a:=⟨wr.heap.size,2,none⟩) (v:=.string l[k].2.2) (by simp)
      by_cases hok:okEd l[k]=true
      · have hok':okEdit l[k].1 l[k].2.1 l[k].2.2=true:=hok
        have hvt:=edits_take (w:=wr) (cap:=cap) k hk gb g0 g1 g2
        have hmt:=mem_take_iff l k hlk
        by_cases hnm:∃x∈l.take k,x.1=l[k].1
        · have cN:=λd os=>Calls.regrown_of (d:=d) (os:=os) (w:=wr.alloc (.cells #[.string l[k].1,.string l[k].2.1,.string l[k].2.2] 49)) (names_val (l.take k) l[k].1 _ _ ((hvt.later hb1).later (below_regrown _ d os)) (by rw[List.length_take];omega) true ⟨λ_=>hnm,λ_=>rfl⟩)
          have hB:Hid (¬Good okEd Prod.fst l):=by
            obtain⟨j,hj,he⟩:=hmt.1 hnm
            exact good_twice hlk hj he
          clear hmt hnm hvt hok
          go_wp2
          refine wp_region_quiet_below (by kernel_rfl) (by kernel_rfl) ?_
          repeat (first|go_big_quiet_step (first|exact cM _ _|exact cN _ _)|quiet_step (first|exact cM _ _|exact cN _ _))
          refine wpQuiet_nil ?_
          rintro _ ⟨p,rfl⟩
          have hq:=below_rg hb (.cells #[.string l[k].1,.string l[k].2.1,.string l[k].2.2] 49) p.d p.os
          generalize grow (redrawn _ p.d) p.os=wq at hq ⊢
          clear cM cN e0 e1 e2
          go_wp2
          go_ret
          exact⟨.no hB.out,hq⟩
        · have cN:=λd os=>Calls.regrown_of (d:=d) (os:=os) (w:=wr.alloc (.cells #[.string l[k].1,.string l[k].2.1,.string l[k].2.2] 49)) (names_val (l.take k) l[k].1 _ _ ((hvt.later hb1).later (below_regrown _ d os)) (by rw[List.length_take];omega) false ⟨λh=>Bool.noConfusion h,λh=>absurd h hnm⟩)
          have hG:Hid (Good okEd Prod.fst (l.take (k+1))):=(good_succ hlk).2 ⟨hs.out,hok,λj hj he=>hnm (hmt.2 ⟨j,hj,he⟩)⟩
          clear hmt hnm hvt hok
          go_wp2
          refine wp_region_quiet_below (by kernel_rfl) (by kernel_rfl) ?_
          repeat (first|go_big_quiet_step (first|exact cM _ _|exact cN _ _)|quiet_step (first|exact cM _ _|exact cN _ _))
          refine wpQuiet_nil ?_
          rintro _ ⟨p,rfl⟩
          have hq:=below_rg hb (.cells #[.string l[k].1,.string l[k].2.1,.string l[k].2.2] 49) p.d p.os
          generalize grow (redrawn _ p.d) p.os=wq at hq ⊢
          clear cM cN e0 e1 e2
          go_wp2
          go_roundw
          case rel=>exact⟨k+1,hlk,by go_num,hq,hG⟩
          case measure=>simp[intOf];omega
      · have hB:Hid (¬Good okEd Prod.fst l):=good_stop hlk hok
        have hok':okEdit l[k].1 l[k].2.1 l[k].2.2=false:=by simpa[okEd] using hok
        clear hok
        go_wp2
        refine wp_region_quiet_below (by kernel_rfl) (by kernel_rfl) ?_
        repeat (first|go_big_quiet_step (exact cM _ _)|quiet_step (exact cM _ _))
        refine wpQuiet_nil ?_
        rintro _ ⟨p,rfl⟩
        have hq:=below_rg hb (.cells #[.string l[k].1,.string l[k].2.1,.string l[k].2.2] 49) p.d p.os
        generalize grow (redrawn _ p.d) p.os=wq at hq ⊢
        clear cM e0 e1 e2
        go_wp2
        go_ret
        exact⟨.no hB.out,hq⟩
    · go_wp2
      go_ret
      refine⟨.yes ?_,hb⟩
      have:=hs.out
      rwa [List.take_of_length_le (by omega)] at this
theorem editsMayBe_len (n cap:Nat)(a:Option Addr)(w:World)(h:n<1\/4<n)(hn:n<8796093022208):
    Calls prog 236 #[.slice a n cap] w λe w'=>e=.returned (.bool false)/\w'=w:=by
  rcases h with h|h
  · go_enter func236,ntmps236
    go_wp2
    go_ret
    exact⟨rfl,rfl⟩
  · have h1:¬n<1:=by omega
    go_enter func236,ntmps236
    go_wp2
    go_ret
    exact⟨rfl,rfl⟩
def CapOK:Value->Prop
  |.slice _ n cap=>n<=cap
  |_=>True
theorem editsMayBe_any (l:List Ed)(v:Value)(w:World)(hl:EditsAt w v l)(hc:CapOK v)(hn:l.length<8796093022208):
    Calls prog 236 #[v] w λe w'=>RetIff e (EditsOK l)/\Below w.heap.size w w':=by
  by_cases h:l.length<1\/4<l.length
  · have hv:∃a cap,v=.slice a l.length cap:=by
      rcases hl with ⟨rfl,a,cap,rfl⟩|⟨b,off,cap,rfl,_⟩
      · exact⟨_,_,rfl⟩
      · exact⟨_,_,rfl⟩
    obtain⟨a,cap,rfl⟩:=hv
    refine(editsMayBe_len l.length cap a w h hn).mono ?_
    rintro e w' ⟨rfl,rfl⟩
    exact⟨.no λhg=>by unfold EditsOK at hg;omega,Below.refl _ _⟩
  · rcases hl with ⟨rfl,_⟩|⟨b,off,cap,rfl,hlt,h0,h1,h2⟩
    · simp at h
    · refine(editsMayBe_row l b off cap w hlt h0 h1 h2 (by omega) (by omega) hc).mono ?_
      rintro e w' ⟨⟨r,rfl,hr⟩,hb⟩
      exact⟨⟨r,rfl,hr.trans ⟨λhg=>⟨by omega,by omega,hg⟩,λhg=>hg.2.2⟩⟩,hb⟩
end
section
open Go.Sort
def ChOK (c:Cfg)(id lane:Int)(es:List Ed):Prop:=1<=id/\id<=1000000/\0<=lane/\lane<c.lanes/\EditsOK es
theorem editsMayBe_val (l:List Ed)(v:Value)(w:World)(hl:EditsAt w v l)(hc:CapOK v)(hn:l.length<8796093022208)(r:Bool)(hr:r=true↔EditsOK l):
    Calls prog 236 #[v] w λe w'=>e=.returned (.bool r)/\Below w.heap.size w w':=by
  refine(editsMayBe_any l v w hl hc hn).mono ?_
  rintro e w' ⟨⟨r',rfl,hr'⟩,hb⟩
  have:r'=r:=by
    have:=hr'.trans hr.symm
    cases r'<;>cases r<;>simp_all
  exact⟨by rw[this],hb⟩
theorem yChange (yb:Nat)(c:Cfg)(cs:Array Value)(kind id lane num:Int)(pass:Bool)(es:List Ed)(ea:Option Addr)(en ec:Nat)(w:World)(hB:Bx w yb 201 cs)(h0:cs[0]? =some (.int .i64 c.lanes))(hE:EditsAt w (.slice ea en ec) es)(hc:CapOK (.slice ea en ec))(hn:es.length<8796093022208):
    Calls prog 194 #[.pointer (some ⟨yb,0,none⟩),.agg #[.int .i64 kind,.int .i64 lane,.slice ea en ec,.int .i64 id,.bool pass,.int .i64 num]] w λe w'=>RetIff e (ChOK c id lane es)/\Below w.heap.size w w':=by
  have hB0:Below w.heap.size w (w.alloc (.cells #[.int .i64 kind,.int .i64 lane,.slice ea en ec,.int .i64 id,.bool pass,.int .i64 num] 140)):=below_new _ _
  have X0:Bx (w.alloc (.cells #[.int .i64 kind,.int .i64 lane,.slice ea en ec,.int .i64 id,.bool pass,.int .i64 num] 140)) w.heap.size 140 #[.int .i64 kind,.int .i64 lane,.slice ea en ec,.int .i64 id,.bool pass,.int .i64 num]:=Bx.new _ _ _
  have x1:(w.alloc (.cells #[.int .i64 kind,.int .i64 lane,.slice ea en ec,.int .i64 id,.bool pass,.int .i64 num] 140)).cell? ⟨w.heap.size,1,none⟩=some (.int .i64 lane):=X0.cell (i:=1) rfl
  have x2:(w.alloc (.cells #[.int .i64 kind,.int .i64 lane,.slice ea en ec,.int .i64 id,.bool pass,.int .i64 num] 140)).cell? ⟨w.heap.size,2,none⟩=some (.slice ea en ec):=X0.cell (i:=2) rfl
  have x3:(w.alloc (.cells #[.int .i64 kind,.int .i64 lane,.slice ea en ec,.int .i64 id,.bool pass,.int .i64 num] 140)).cell? ⟨w.heap.size,3,none⟩=some (.int .i64 id):=X0.cell (i:=3) rfl
  have y0:(w.alloc (.cells #[.int .i64 kind,.int .i64 lane,.slice ea en ec,.int .i64 id,.bool pass,.int .i64 num] 140)).cell? ⟨yb,0,none⟩=some (.int .i64 c.lanes):=(hB.mk _).cell h0
  have HP:Hid (ChOK c id lane es↔(1<=id/\id<=1000000/\0<=lane/\lane<c.lanes/\EditsOK es)):=Iff.rfl
  obtain⟨r,hr⟩:∃r:Bool,r=true↔EditsOK es:=by
    by_cases h:EditsOK es
    · exact⟨true,by simp[h]⟩
    · exact⟨false,by simp[h]⟩
  have cM:=λd os=>Calls.regrown_of (d:=d) (os:=os) (w:=w.alloc (.cells #[.int .i64 kind,.int .i64 lane,.slice ea en ec,.int .i64 id,.bool pass,.int .i64 num] 140)) (editsMayBe_val es (.slice ea en ec) _ ((hE.later (below_new _ _)).later (below_regrown _ d os)) hc hn r hr)
  have Hr:Hid (r=true↔EditsOK es):=hr
  generalize ChOK c id lane es=p at HP ⊢
  clear hB hE X0 hr
  go_enter func194,ntmps194
  go_upto_region 1 with fail
  generalize w.alloc (.cells #[.int .i64 kind,.int .i64 lane,.slice ea en ec,.int .i64 id,.bool pass,.int .i64 num] 140)=w0 at *
  have HB0:Hid (Below w.heap.size w w0):=hB0
  have e1:=cell_regrown x1
  have e2:=cell_regrown x2
  have e3:=cell_regrown x3
  have e0:=cell_regrown y0
  clear hB0 x1 x2 x3 y0
  have fin:Hid (∀(b:Bool) (q:Regrown),(b=true↔p)->RetIff (.returned (.bool b)) p/\Below w.heap.size w (grow (redrawn w0 q.d) q.os)):=λb q h=>⟨⟨b,rfl,h⟩,HB0.out.trans ((below_regrown w0 q.d q.os).mono HB0.out.size)⟩
  have no:Hid (¬p->(false=true↔p)):=λh=>⟨λx=>Bool.noConfusion x,λx=>absurd x h⟩
  by_cases g1:1<=id
  · by_cases g2:id<=1000000
    · by_cases g3:0<=lane
      · by_cases g4:lane<(c.lanes:Int)
        · have F:Hid (r=true↔p):=Hr.out.trans ⟨λh=>HP.out.2 ⟨g1,g2,g3,g4,h⟩,λh=>(HP.out.1 h).2.2.2.2⟩
          refine wp_region_quiet_below (by kernel_rfl) (by kernel_rfl) ?_
          repeat (first|go_big_quiet_step (exact cM _ _)|quiet_step (exact cM _ _))
          refine wpQuiet_nil ?_
          rintro _ ⟨q,rfl⟩
          go_wp2_with fail
          go_ret
          exact fin.out r q F.out
        · have F:Hid (false=true↔p):=no.out λh=>g4 (HP.out.1 h).2.2.2.1
          refine wp_region_quiet_below (by kernel_rfl) (by kernel_rfl) ?_
          repeat (first|go_big_quiet_step (exact cM _ _)|quiet_step (exact cM _ _))
          refine wpQuiet_nil ?_
          rintro _ ⟨q,rfl⟩
          go_wp2_with fail
          go_ret
          exact fin.out false q F.out
      · have F:Hid (false=true↔p):=no.out λh=>g3 (HP.out.1 h).2.2.1
        refine wp_region_quiet_below (by kernel_rfl) (by kernel_rfl) ?_
        repeat (first|go_big_quiet_step (exact cM _ _)|quiet_step (exact cM _ _))
        refine wpQuiet_nil ?_
        rintro _ ⟨q,rfl⟩
        go_wp2_with fail
        go_ret
        exact fin.out false q F.out
    · have F:Hid (false=true↔p):=no.out λh=>g2 (HP.out.1 h).2.1
      refine wp_region_quiet_below (by kernel_rfl) (by kernel_rfl) ?_
      repeat (first|go_big_quiet_step (exact cM _ _)|quiet_step (exact cM _ _))
      refine wpQuiet_nil ?_
      rintro _ ⟨q,rfl⟩
      go_wp2_with fail
      go_ret
      exact fin.out false q F.out
  · have F:Hid (false=true↔p):=no.out λh=>g1 (HP.out.1 h).1
    refine wp_region_quiet_below (by kernel_rfl) (by kernel_rfl) ?_
    repeat (first|go_big_quiet_step (exact cM _ _)|quiet_step (exact cM _ _))
    refine wpQuiet_nil ?_
    rintro _ ⟨q,rfl⟩
    go_wp2_with fail
    go_ret
    exact fin.out false q F.out
end
theorem chg_form {w:World}{e:TypeId}{size n:Nat}{v:Value}{xs:List Value}(h:Sl w e size v n xs):∃a m c,v=.slice a m c:=by
  obtain⟨a,c,e⟩:=h.form
  exact⟨a,_,c,e⟩
theorem segRenew (p:Nat)(f b:Int)(a:Option Addr)(m c:Nat)(jv:Value)(w:World)(hB:Bx w p 240 #[.slice a m c,.int .i64 f,.int .i64 b,jv]):
    Calls prog 246 #[ptr p] w λe w'=>e=.returned (.tuple #[])/\Bx w' p 240 #[.slice a m c,.int .i64 0,.int .i64 0,.pointer none]/\Only w w' (λk=>k=p):=by
  have HB:Hid (Bx w p 240 #[.slice a m c,.int .i64 f,.int .i64 b,jv]):=hB
  have c0:=hB.cell (i:=0) rfl
  have c1:=hB.cell (i:=1) rfl
  have c2:=hB.cell (i:=2) rfl
  have c3:=hB.cell (i:=3) rfl
  have fr:=hB.fr
  clear hB
  unfold ptr
  go_enter func246,ntmps246
  go_wp2
  go_end0
  refine⟨rfl,?_,((((Only.refl w λk=>k=p).set (.inl rfl)).set (.inl rfl)).set (.inl rfl)).set (.inl rfl)⟩
  have:=(((HB.out.set 0 (.slice a m c)).set 1 (.int .i64 0)).set 2 (.int .i64 0)).set 3 (.pointer none)
  simpa using this
theorem segPassed (p b:Nat)(cs:Array Value)(w:World)(hB:Bx w p 240 cs)(h2:cs[2]? =some (.int .i64 b))(r:Bool)(hr:r=decide (b≠0)):
    Calls prog 189 #[ptr p] w λe w'=>e=.returned (.bool r)/\w'=w:=by
  have c2:=hB.cell h2
  clear hB h2
  unfold ptr
  by_cases hb:b=0
  · subst hb
    obtain rfl:r=false:=by simpa using hr
    clear hr
    go_enter func189,ntmps189
    go_wp2
    go_ret
    exact⟨rfl,rfl⟩
  · obtain rfl:r=true:=by simpa[hb] using hr
    clear hr
    have hne:((b:Int) !=0)=true:=by simp;omega
    have hne2:((b:Int)==0)=false:=by simp;omega
    go_enter func189,ntmps189
    go_wp2
    go_ret
    exact⟨rfl,rfl⟩
theorem yFailed (yb p f t:Nat)(ds cs:Array Value)(w:World)(hY:Bx w yb 201 ds)(h4:ds[4]? =some (.int .i64 t))(hB:Bx w p 240 cs)(h1:cs[1]? =some (.int .i64 f))(r:Bool)(hr:r=decide (t<f)):
    Calls prog 213 #[ptr yb,ptr p] w λe w'=>e=.returned (.bool r)/\∃n,w'=w.drewN n:=by
  have c1:=hB.cell h1
  have y4:=hY.cell h4
  clear hB h1 hY h4
  unfold ptr
  by_cases hb:t<f
  · obtain rfl:r=true:=by simpa[hb] using hr
    clear hr
    have hne:decide ((f:Int)>t)=true:=by simp;omega
    have hne':(t:Int)<f:=by omega
    go_enter func213,ntmps213
    go_wp2
    go_quiet (fail)
    go_wp2
    go_ret
    exact⟨rfl,_,rfl⟩
  · obtain rfl:r=false:=by simpa[hb] using hr
    clear hr
    have hne':¬(t:Int)<f:=by omega
    go_enter func213,ntmps213
    go_wp2
    go_quiet (fail)
    go_wp2
    go_ret
    exact⟨rfl,_,rfl⟩
theorem segEnd_pass (p jb:Nat)(num:Int)(f b:Int)(cv:Value)(js:Array Value)(w:World)(hB:Bx w p 240 #[cv,.int .i64 f,.int .i64 b,ptr jb])(hJ:Bx w jb 242 js)(h0:js[0]? =some (.int .i64 num)):
    Calls prog 119 #[ptr p,.bool true] w λe w'=>e=.returned (.tuple #[])/\Bx w' p 240 #[cv,.int .i64 f,.int .i64 num,.pointer none]/\Only w w' (λk=>k=p):=by
  have HB:Hid (Bx w p 240 #[cv,.int .i64 f,.int .i64 b,ptr jb]):=hB
  have c2:=hB.cell (i:=2) rfl
  have c3:w.cell? ⟨p,3,none⟩=some (.pointer (some ⟨jb,0,none⟩)):=hB.cell (i:=3) rfl
  have j0:=hJ.cell h0
  have fr:=hB.fr
  clear hB hJ
  unfold ptr
  go_enter func119,ntmps119
  go_wp2
  go_end0
  refine⟨rfl,?_,(((Only.refl w λk=>k=p).set (.inl rfl)).set (.inl rfl))⟩
  have:=(HB.out.set 2 (.int .i64 num)).set 3 (.pointer none)
  simpa using this
theorem segEnd_fail (p f:Nat)(b:Int)(cv jv:Value)(w:World)(hB:Bx w p 240 #[cv,.int .i64 f,.int .i64 b,jv])(hf:f<1048576000):
    Calls prog 119 #[ptr p,.bool false] w λe w'=>e=.returned (.tuple #[])/\Bx w' p 240 #[cv,.int .i64 ((f+1:Nat):Int),.int .i64 b,.pointer none]/\Only w w' (λk=>k=p):=by
  have HB:Hid (Bx w p 240 #[cv,.int .i64 f,.int .i64 b,jv]):=hB
  have c1:=hB.cell (i:=1) rfl
  have c3:=hB.cell (i:=3) rfl
  have fr:=hB.fr
  clear hB
  unfold ptr
  go_enter func119,ntmps119
  go_wp2
  go_end0
  refine⟨rfl,?_,(((Only.refl w λk=>k=p).set (.inl rfl)).set (.inl rfl))⟩
  have:=(HB.out.set 1 (.int .i64 ((f:Int)+1))).set 3 (.pointer none)
  simpa using this
theorem step_call {P:Program}{ops:Array Oper}{o:Oper}{a:Act}{w:World}{K:Act->World->Prop}{Q:Exit->Act->World->Prop}{E:Prop}(hg:o.guard=none)(f:FuncId)(xs:List Operand)(tys:Array TypeId)(ho:o.op=Op.call {callee:=Callee.value (Operand.func f),args:=xs.toArray,argTypes:=tys})(args:List Value)(ha:xs.map a.eval=args)(he:∀args w,(callFunc f args).run P w=.ok (.enter f args) w){R:Ending->World->Prop}(hC:Calls P f args.toArray w R)(hK:∀e w',R e w'->∃v,e=.returned v/\K (a.put o.dst v) w'):if Region.wanted o (yielded ops a.tmps)=true then Oper.wp P o a w K Q else E:=by
  have hw:Region.wanted o (yielded ops a.tmps)=true:=by simp[Region.wanted,hg]
  rw[if_pos hw]
  unfold Oper.wp execOp
  simp only[ho,resolve,invoke,Act.eval,List.map_toArray]
  subst ha
  simp[go_sem,he,Oper.upon]
  refine hC.mono ?_
  intro e w' h
  obtain⟨v,rfl,h2⟩:=hK e w' h
  exact h2
theorem mapsClone (mb:Nat)(es:Array MapEntry)(clock:Nat)(w:World)(hb:w.heap[mb]? =some (.map es clock)):
    Calls prog 242 #[.map (some mb)] w λe w'=>e=.returned (.map (some w.heap.size))/\w'=w.alloc (.map es clock):=by
  have hq:=λw=>run_eql_map_nil_sl (P:=prog) w 132 _ _ (some mb) under58
  go_enter func242,ntmps242
  go_wp2_with fail
  rw[run_callFunc_extern func265 (by kernel_rfl) (by kernel_rfl) (by kernel_rfl) (e:=Extern.MapsClone.clone) (by kernel_rfl),run_maps_clone_sl w 132 hb]
  simp only[Result.andThen]
  rw[Oper.upon_value]
  go_wp2_with fail
  rw[run_typeAssert_map_sl _ 132 _ _ _ _ under58]
  simp only[Result.andThen]
  rw[Oper.upon_value]
  go_wp2_with fail
  go_ret
  exact⟨rfl,rfl⟩
theorem setClone (mb n:Nat)(g:ByteArray->ByteArray)(w:World)(hM:FilesMap w mb n g):
    Calls prog 208 #[.map (some mb)] w λe w'=>e=.returned (.map (some w.heap.size))/\FilesMap w' w.heap.size n g/\Below w.heap.size w w':=by
  obtain⟨D,⟨es,clock,hb,F,hs,hD⟩,hM⟩:=hM
  go_enter func208,ntmps208
  go_wp2_with fail
  go_fit (mapsClone mb es clock w hb)
  rintro e w1 ⟨rfl,rfl⟩
  go_wp2_with fail
  go_ret
  exact⟨rfl,⟨D,⟨es,clock,(MapKept.heap_alloc w _).1,F,hs,hD⟩,hM⟩,below_new w _⟩
theorem FilesMap.more {w:World}{mb n n':Nat}{g:ByteArray->ByteArray}(h:FilesMap w mb n g)(hn:n<=n'):FilesMap w mb n' g:=by
  obtain⟨D,⟨es,clock,hh,h2,h3,h4⟩,hM⟩:=h
  exact⟨D,⟨es,clock,hh,h2,Nat.le_trans h3 hn,h4⟩,hM⟩
theorem edits_of_sl {w:World}{e:TypeId}{v:Value}{l:List Ed}(h:Sl w e 3 v l.length (l.flatMap cE)):EditsAt w v l:=by
  cases hl:l with
  |nil=>
    obtain⟨a,cap,rfl⟩:=h.form
    rw[hl]
    exact .inl ⟨rfl,a,cap,rfl⟩
  |cons x m=>
    rw[<-hl]
    obtain⟨g,off,cap,rfl,_⟩:=h.addr (by rw[hl];simp)
    have hc:∀i (hi:i<l.length) j,j<3->∀u,(cE l[i])[j]? =some u->w.cell? ⟨g,off+(i*3+j),none⟩=some u:=λi hi j hj u hu=>by
      refine h.cell ?_
      rw[flat_get cE 3 (λ_=>rfl) l i j hi hj]
      exact hu
    refine .inr ⟨g,off,cap,rfl,h.lt rfl,λi hi=>hc i hi 0 (by omega) _ rfl,λi hi=>?_,λi hi=>?_⟩
    · have:=hc i hi 1 (by omega) _ rfl
      rwa [<-Nat.add_assoc] at this
    · have:=hc i hi 2 (by omega) _ rfl
      rwa [<-Nat.add_assoc] at this
theorem chs_len {w:World}{S:Nat->Prop}{cv:Value}{l:List Cg}{cl:List Cw}(h:ChsIs w S cv l cl):cl.length=l.length:=by rw[<-h.fst,List.length_map]
theorem EditsOK_len {y:Cg}{l:List Cg}{k:Nat}{hk:k<l.length}(e:y=l[k])(hx:∀y∈l,EditsOK y.2)(_:k<l.length):y.2.length<=4:=by
  rw[e];exact(hx _ (List.getElem_mem hk)).2.1
theorem segApply (S:Nat->Prop)(N p bm n:Nat)(x:Sm)(cv jv:Value)(cl:List Cw)(g:ByteArray->ByteArray)(w:World)(h:SegIs w S N p x cv jv cl)(hM:FilesMap w bm n g)(hx:∀y∈x.l,EditsOK y.2)(hl:x.l.length<=8)(hn:n<8796093000000):
    Calls prog 209 #[ptr p,.map (some bm)] w λe w'=>e=.returned (.int .i64 (makes g x.l).2)/\((makes g x.l).2=x.l.length->FilesMap w' bm (n+4*x.l.length) (makes g x.l).1)/\w.grownBy w' (some bm):=by
  have hlen:=chs_len h.chs
  have HB:Hid (Bx w p 240 (segCells cv x.fails x.by_ jv)):=h.box
  have HC:Hid (ChsIs w S cv x.l cl):=h.chs
  have npb:bm≠p:=hM.ne_box h.box
  have ncb:cv.ownBlock≠some bm:=hM.ne_sl h.chs.row
  have HE:Hid (∀y∈cl,y.2.ownBlock≠some bm):=λy hy=>hM.ne_sl (h.chs.eds y hy).1
  obtain⟨ca,cc,rfl⟩:=h.chs.row.form
  have x0:w.cell? ⟨p,0,none⟩=some (.slice ca cl.length cc):=h.box.cell (i:=0) rfl
  have HN:Hid (n<8796093000000):=hn
  have HM:Hid (FilesMap w bm n g):=hM
  clear h hM hn
  unfold ptr
  go_enter func209,ntmps209
  go_wp2_with fail
  go_loopw [12] (λi wr=>∃k:Nat,k<=cl.length/\i=.int .i64 k/\Hid ((makes g (x.l.take k)).2=(x.l.take k).length)/\Hid (FilesMap wr bm (n+4*k) (after g (x.l.take k)))/\Hid (w.grownBy wr (some bm))) (λi _=>cl.length-(intOf i).toNat)
  case atStart=>exact⟨0,Nat.zero_le _,rfl,rfl,HM.out,World.grownBy.refl _ _⟩
  case round=>
    obtain⟨k,hk,rfl,HK,HF,HG⟩:=hrel
    have x0':wr.cell? ⟨p,0,none⟩=some (.slice ca cl.length cc):=World.grownBy.cell HG.out x0 (λe=>npb (Option.some.inj e).symm)
    by_cases hlk:k<cl.length
    · have hr:Sl wr 273 2 (.slice ca cl.length cc) cl.length (cl.flatMap cC):=HC.out.row.grown HG.out (λg hg e=>ncb (by rw[hg,e]))
      obtain⟨b,off,cap,e,hcap,_⟩:=hr.addr (by omega)
      cases e
      have hlx:k<x.l.length:=by omega
      have hfst:cl[k].1=x.l[k]:=by
        have:=HC.out.fst
        simp[<-this]
      have hy:=HC.out.eds cl[k] (List.getElem_mem hlk)
      have c0:wr.cell? ⟨b,off+k*2,none⟩=some (.int .i64 cl[k].1.1):=hr.cell (by rw[show k*2=k*2+0 from rfl,flat_get cC 2 (λ_=>rfl) cl k 0 hlk (by omega)];rfl)
      have c1:wr.cell? ⟨b,off+k*2+1,none⟩=some cl[k].2:=by
        have:=hr.cell (j:=k*2+1) (u:=cl[k].2) (by rw[flat_get cC 2 (λ_=>rfl) cl k 1 hlk (by omega)];rfl)
        rwa [<-Nat.add_assoc] at this
      have hok:EditsOK cl[k].1.2:=by rw[hfst];exact hx _ (List.getElem_mem hlx)
      have HE1:EditsAt wr cl[k].2 cl[k].1.2:=edits_of_sl (hy.1.grown HG.out (λg hg e=>HE.out cl[k] (List.getElem_mem hlk) (by rw[hg,e])))
      obtain⟨ea,ec,ee⟩:=hy.1.form
      obtain⟨D,hown,hMI⟩:=HF.out
      have hA:=setApply_any cl[k].1.2 cl[k].2 bm (n+4*k) D (after g (x.l.take k)) (wr.alloc (.cells #[.int .i64 cl[k].1.1,cl[k].2] 273)) (HE1.later (below_new wr _)) hok.1 hok.2.1 (hown.alloc _) hMI (by have:=HN.out;omega) (λz hz=>by
        have:=(okEd_iff z).1 (hok.2.2.1 z hz)
        unfold maxLen;omega)
      have HT:Hid (x.l.take (k+1)=x.l.take k++[x.l[k]]):=List.take_succ_eq_append_getElem hlx
      have HF2:Hid (cl[k].1=x.l[k]):=hfst
      clear hown hMI D hr hy hfst hok HE1
      rw[ee] at c1 hA
      go_wp2_with (go_at_call 243;refine hA.mono ?_;rintro e w1 ⟨hres,hg1⟩;rcases hres with ⟨rfl,hall,D1,hown1,hM1⟩|⟨rfl,hnot⟩)
      · go_roundw
        case rel=>
          have ea:appOn (after g (x.l.take k)) x.l[k].2=true:=(appOn_iff _ _).2 (by rw[<-HF2.out];exact hall)
          refine⟨k+1,hlk,by go_num,?_,?_,?_⟩
          · show (makes g (x.l.take (k+1))).2=(x.l.take (k+1)).length
            rw[HT.out,makes_snoc_yes _ _ _ HK.out ea,List.length_append];rfl
          · have hle:=(EditsOK_len HF2.out hx hlx)
            show FilesMap w1 bm (n+4*(k+1)) (after g (x.l.take (k+1)))
            rw[HT.out,after_snoc,<-HF2.out]
            exact FilesMap.more ⟨D1,hown1,hM1⟩ (by omega)
          · exact(HG.out.trans (World.grownBy_alloc _ _ _)).trans hg1
        case measure=>simp[intOf];omega
      · go_ret
        have ea:appOn (after g (x.l.take k)) x.l[k].2=false:=by
          rw[Bool.eq_false_iff]
          exact λh=>hnot (by rw[HF2.out];exact(appOn_iff _ _).1 h)
        have hm:(makes g x.l).2=k:=by
          have:=makes_snoc_no _ _ x.l[k] (x.l.drop (k+1)) HK.out ea
          rw[<-List.drop_eq_getElem_cons hlx,List.take_append_drop,List.length_take] at this
          omega
        rw[hm]
        exact⟨rfl,λe=>by omega,(HG.out.trans (World.grownBy_alloc _ _ _)).trans hg1⟩
    · go_wp2_with fail
      go_ret
      obtain rfl:k=x.l.length:=by omega
      have h1:=HK.out
      have h2:=HF.out
      rw[List.take_length] at h1 h2
      rw[h1]
      refine⟨rfl,λ_=>?_,HG.out⟩
      rw[makes_all _ _ h1]
      exact h2
end Go.Proofs.YtgamgomepdfgdaaGreat
