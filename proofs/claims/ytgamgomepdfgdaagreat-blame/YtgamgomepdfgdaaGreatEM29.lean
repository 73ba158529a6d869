import Derived.Test.YtgamgomepdfgdaaGreatEM28
set_option maxRecDepth 100000
set_option maxHeartbeats 8000000
namespace Go.Proofs.YtgamgomepdfgdaaGreat
open Go.RowKit Go.Proofs.Tryz
structure TipsOut (base:Nat)(w:World)(v:Value)(tl:List Tp):Prop where
  row:w.ownsRow base 110 2 v tl.length (tl.flatMap cTp)
  ids:∀y∈tl,w.ownsRow base 3 1 y.2 y.1.2.length (y.1.2.map cI)
  ap:tl.Pairwise λa b=>∀g,a.2.ownBlock=some g->b.2.ownBlock≠some g
theorem ints_one (l:List Nat):∀u∈l.map cI,u.oneCell'=true:=λu hu=>by
  obtain⟨n,_,rfl⟩:=List.mem_map.1 hu
  rfl
theorem tips_one {tl:List Tp}(h:∀y∈tl,IsSl y.2):∀u∈tl.flatMap cTp,u.oneCell'=true:=λu hu=>by
  obtain⟨y,hy,hu⟩:=List.mem_flatMap.1 hu
  obtain⟨a,n,c,e⟩:=h y hy
  simp only[cTp,List.mem_cons,List.not_mem_nil,or_false] at hu
  rcases hu with rfl|rfl
  · rfl
  · rw[e];rfl
theorem flat_put (ts:List Tp)(y:Tp)(rest:List Tp)(v:Value):((ts++y::rest).flatMap cTp).set (ts.length*2+1) v=(ts++[(y.1,v)]++rest).flatMap cTp:=by
  rw[List.flatMap_append,List.set_append_right _ _ (by rw[flat_len cTp 2 (λ_=>rfl)];omega),flat_len cTp 2 (λ_=>rfl),List.append_assoc,List.flatMap_append]
  simp[cTp]
theorem yMain (yb:Nat)(cs:Array Value)(mv:Value)(tl:List Tp)(w:World)(hB:Bx w yb 201 cs)(h8:cs[8]? =some mv)(hS:Sl w 110 2 mv tl.length (tl.flatMap cTp))(hids:∀y∈tl,Sl w 3 1 y.2 y.1.2.length (y.1.2.map cI))(hn:tl.length<1048576000)(hl:∀y∈tl,y.1.2.length<=8):
    Calls prog 104 #[.pointer (some ⟨yb,0,none⟩)] w λe w'=>(∃v' tl',e=.returned v'/\tl'.map Prod.fst=tl.map Prod.fst/\TipsOut w.heap.size w' v' tl')/\Below w.heap.size w w':=by
  have hsl:∀y∈tl,IsSl y.2:=λy hy=>by
    obtain⟨a,c,e⟩:=(hids y hy).form
    exact⟨a,_,c,e⟩
  have hC:=tipClone _ mv tl.length w hS (tips_one hsl) (by unfold maxLen;omega) (Nat.le_trans (Nat.mul_le_mul_right 32 (show tl.length<=1048576000 by omega)) (by decide))
  have HI:Hid (∀W,Below w.heap.size w W->∀y∈tl,Calls prog 146 #[y.2] W λe w'=>(∃v',e=.returned v'/\w'.ownsRow W.heap.size 3 1 v' y.1.2.length (y.1.2.map cI))/\Below W.heap.size W w'):=λW hW y hy=>intClone _ y.2 _ W ((hids y hy).later hW) (ints_one _) (by have:=hl y hy;unfold maxLen;omega) (by have:=hl y hy;omega)
  have c8:=hB.cell h8
  obtain⟨ma,mc,rfl⟩:=hS.form
  have HSL:Hid (∀y∈tl,IsSl y.2):=hsl
  clear hB hS hids hl h8 hsl
  go_enter func104,ntmps104
  go_wp2_with fail
  go_fit hC
  rintro e w1 ⟨⟨v1,rfl,hr1⟩,hb1⟩
  obtain⟨a1,k1,rfl⟩:=row_shape3 hr1
  have HR:Hid (w1.ownsRow w.heap.size 110 2 (.slice a1 tl.length k1) tl.length (tl.flatMap cTp)):=hr1
  have HB1:Hid (Below w.heap.size w w1):=hb1
  clear hC hr1 hb1 c8
  go_wp2_with fail
  go_loopw [4,12] (λ_ iv wr=>∃ts:List Tp,ts.length<=tl.length/\iv=.int .i64 ts.length/\Hid (ts.map Prod.fst=(tl.take ts.length).map Prod.fst)/\Hid (wr.ownsRow w.heap.size 110 2 (.slice a1 tl.length k1) tl.length ((ts++tl.drop ts.length).flatMap cTp))/\Hid (∀y∈ts,wr.ownsRow w.heap.size 3 1 y.2 y.1.2.length (y.1.2.map cI))/\Hid (ts.Pairwise λa b=>∀g,a.2.ownBlock=some g->b.2.ownBlock≠some g)/\Hid (Below w.heap.size w wr)) (λ_ i _=>tl.length-(intOf i).toNat)
  case atStart=>exact⟨[],Nat.zero_le _,rfl,rfl,by simpa using HR,by simp[Hid],List.Pairwise.nil,HB1⟩
  case round=>
    obtain⟨ts,hk,rfl,hfst,hr,hi,hap,hb⟩:=hrel
    have HK:Hid (ts.length<=tl.length):=hk
    obtain⟨k,hkk⟩:∃k,k=ts.length:=⟨_,rfl⟩
    rw[<-hkk] at hfst hr hk ⊢
    have HKK:Hid (k=ts.length):=hkk
    clear hkk
    by_cases hlk:k<tl.length
    · have HT:Hid (ts++tl.drop k=ts++tl[k]::tl.drop (k+1)):=by show _=_;rw[List.drop_eq_getElem_cons hlk]
      obtain⟨g,cap',hv⟩:∃g cap',(Value.slice a1 tl.length k1)=.slice (some ⟨g,0,none⟩) tl.length cap':=by
        rcases hr.out.2 with ⟨h,h0⟩|⟨g,cap',cur,e,_⟩
        · omega
        · exact⟨g,cap',e⟩
      cases hv
      obtain⟨ia,il,ic,hiv⟩:=HSL.out _ (List.getElem_mem hlk)
      have hcell:=hr.out.cells (g:=g) rfl
      have d1:wr.cell? ⟨g,k*2+1,none⟩=some (.slice ia il ic):=by
        have h2:=hcell (k*2+1) (.slice ia il ic) (by
          rw[HT.out,List.flatMap_append,List.getElem?_append_right (by rw[flat_len cTp 2 (λ_=>rfl),<-HKK.out];omega),flat_len cTp 2 (λ_=>rfl),<-HKK.out,<-hiv,List.flatMap_cons,Nat.add_sub_cancel_left]
          rfl)
        rw[addr_add,Nat.zero_add] at h2
        exact h2
      have hfr:wr.frozen? ⟨g,k*2+1,none⟩=false:=(Sl.of_row hr.out).fr _
      have hgl:=jcell_lt d1
      have hCl:=HI.out wr hb.out tl[k] (List.getElem_mem hlk)
      rw[hiv] at hCl
      clear hiv hcell
      go_wp2_with fail
      go_fit hCl
      rintro e w2 ⟨⟨v2,rfl,hr2⟩,hb2⟩
      obtain⟨a2,k2,rfl⟩:=row_shape3 hr2
      have e1:=jcell_after hb2 d1
      have hfr2:w2.frozen? ⟨g,k*2+1,none⟩=false:=(World.frozen?_of_block (w:=wr) (hb2.block g hgl)).trans hfr
      have HR2:Hid (w2.ownsRow wr.heap.size 3 1 (.slice a2 tl[k].1.2.length k2) tl[k].1.2.length (tl[k].1.2.map cI)):=hr2
      have HB2:Hid (Below wr.heap.size wr w2):=hb2
      clear hr2 hb2 hCl d1 hfr
      obtain⟨y,hy⟩:∃y,y=tl[k]:=⟨_,rfl⟩
      rw[<-hy] at HR2 ⊢
      have HF2:Hid ((tl.take (k+1)).map Prod.fst=(tl.take k).map Prod.fst++[y.1]):=by
        show _=_
        rw[List.take_succ_eq_append_getElem hlk,List.map_append,hy];rfl
      rw[<-hy] at HT
      clear hy
      obtain⟨m,hm⟩:∃m,m=y.1.2.length:=⟨_,rfl⟩
      rw[<-hm] at HR2 ⊢
      have HM:Hid (m=y.1.2.length):=hm
      clear hm
      go_wp2_with fail
      have hbg:wr.grownBy w2 none:=⟨HB2.out.os,HB2.out.tape,HB2.out.output,HB2.out.size,λq hq _=>HB2.out.block q hq⟩
      obtain⟨hst,hgr⟩:=(World.ownsRow.kept hr.out hbg (Classical.em _)).stored (k*2+1) (.slice a2 m k2)
      rw[HT.out,HKK.out,flat_put,<-HKK.out] at hst
      have hlow:=HB2.out.size
      have hlw:=hb.out.size
      have hne:∀{n':Nat} {u:Value} {ys:List Value} {W:World} {b':Nat},W.ownsRow b' 3 1 u n' ys->W.ownsRow w.heap.size 110 2 (.slice (some ⟨g,0,none⟩) tl.length k1) tl.length ((ts++tl.drop k).flatMap cTp)->u.ownBlock=none\/u.ownBlock≠some g:=λh1 h2=>.inr λe=>(Sl.of_row h1).apart (Sl.of_row h2) (by decide) e rfl
      have hk2:(ts++[(y.1,(.slice a2 m k2:Value))]).length=k+1:=by rw[List.length_append,HKK.out];rfl
      refine⟨⟨ts++[(y.1,.slice a2 m k2)],by rw[hk2];omega,by rw[hk2];go_num,?_,?_,?_,?_,?_⟩,by simp[intOf];omega⟩
      · show List.map _ _=_
        rw[hk2,HF2.out,List.map_append,hfst.out];rfl
      · show World.ownsRow _ _ _ _ _ _ _
        rw[hk2]
        exact hst
      · intro z hz
        rcases List.mem_append.1 hz with hz|hz
        · have h1:=World.ownsRow.kept (hi.out z hz) hbg (Classical.em _)
          exact World.ownsRow.kept h1 hgr (hne h1 (World.ownsRow.kept hr.out hbg (Classical.em _)))
        · obtain rfl:=List.mem_singleton.1 hz
          have h1:=World.ownsRow.kept (row_low HR2.out hlw) hgr (hne HR2.out (World.ownsRow.kept hr.out hbg (Classical.em _)))
          show World.ownsRow _ _ _ _ _ y.1.2.length _
          rw[<-HM.out]
          exact h1
      · show List.Pairwise _ _
        rw[List.pairwise_append]
        refine⟨hap.out,by simp,λz hz z' hz' q hq e=>?_⟩
        obtain rfl:=List.mem_singleton.1 hz'
        have h1:=(World.ownsRow.lt (hi.out z hz) q hq).2
        have h2:=(World.ownsRow.lt HR2.out q e).1
        omega
      · exact(hb.out.trans (HB2.out.mono hlw)).grown hgr (Nat.le_trans hlw hlow) (λj hj=>by cases hj;exact(World.ownsRow.lt hr.out g rfl).1)
    · have hk2:ts.length=tl.length:=by have:=HKK.out;have:=HK.out;omega
      have HL:Hid (ts.map Prod.fst=tl.map Prod.fst/\wr.ownsRow w.heap.size 110 2 (.slice a1 tl.length k1) ts.length (ts.flatMap cTp)):=by
        have h1:=hfst.out
        have h2:=hr.out
        rw[HKK.out,hk2,List.take_length] at h1
        rw[HKK.out,hk2,List.drop_length,List.append_nil] at h2
        rw[hk2]
        exact⟨h1,h2⟩
      obtain rfl:k=tl.length:=by omega
      clear hk2
      go_wp2_with fail
      go_ret
      exact⟨⟨_,ts,rfl,HL.out.1,HL.out.2,hi.out,hap.out⟩,hb.out⟩
theorem mPump_of (xb:Nat)(k:Int)(R:World->Prop)(w:World)(h:Calls prog 73 #[.pointer (some ⟨xb,0,none⟩),.agg #[.int .i64 3,.int .i64 0,.slice none 0 0,.int .i64 0,.bool false,.int .i64 0]] w λe w'=>e=.returned (.int .i64 k)/\R w'):
    Calls prog 30 #[.pointer (some ⟨xb,0,none⟩)] w λe w'=>e=.returned (.int .i64 k)/\R w':=by
  go_enter func30,ntmps30
  go_wp2_with fail
  go_fit h
  rintro e w' ⟨rfl,hR⟩
  have HR:Hid (R w'):=hR
  clear hR h
  go_wp2_with fail
  go_ret
  exact⟨rfl,HR.out⟩
theorem mAnswer_of (xb:Nat)(num:Int)(pass:Bool)(k:Int)(R:World->Prop)(w:World)(h:Calls prog 73 #[.pointer (some ⟨xb,0,none⟩),.agg #[.int .i64 4,.int .i64 0,.slice none 0 0,.int .i64 0,.bool pass,.int .i64 num]] w λe w'=>e=.returned (.int .i64 k)/\R w'):
    Calls prog 44 #[.pointer (some ⟨xb,0,none⟩),.int .i64 num,.bool pass] w λe w'=>e=.returned (.int .i64 k)/\R w':=by
  go_enter func44,ntmps44
  go_wp2_with fail
  go_fit h
  rintro e w' ⟨rfl,hR⟩
  have HR:Hid (R w'):=hR
  clear hR h
  go_wp2_with fail
  go_ret
  exact⟨rfl,HR.out⟩
theorem mTick_of (xb:Nat)(n:Int)(k:Int)(R:World->Prop)(w:World)(h:Calls prog 73 #[.pointer (some ⟨xb,0,none⟩),.agg #[.int .i64 5,.int .i64 0,.slice none 0 0,.int .i64 0,.bool false,.int .i64 n]] w λe w'=>e=.returned (.int .i64 k)/\R w'):
    Calls prog 46 #[.pointer (some ⟨xb,0,none⟩),.int .i64 n] w λe w'=>e=.returned (.int .i64 k)/\R w':=by
  go_enter func46,ntmps46
  go_wp2_with fail
  go_fit h
  rintro e w' ⟨rfl,hR⟩
  have HR:Hid (R w'):=hR
  clear hR h
  go_wp2_with fail
  go_ret
  exact⟨rfl,HR.out⟩
def MainOk (s:Ts):Prop:=∀y∈s.main,y.2.length<=8
theorem MainOk.step {c:Cfg}{s s':Ts}(hI:s.Inv c)(h:MainOk s)(hs:s.step c=some s'):MainOk s':=by
  unfold Ts.step at hs
  cases e:s.segs with
  |nil=>
    simp only[e] at hs
    split at hs
    · cases hs
    · cases hs;exact h
  |cons f m=>
    simp only[e] at hs
    have hf:f.l.length<=8:=by
      have h1:=hI.tr
      rw[e,trainLen_cons] at h1
      omega
    split at hs
    · cases hs;exact h
    · split at hs
      · cases hs;exact h
      · split at hs
        · cases hs
          intro y hy
          rcases List.mem_append.1 hy with hy|hy
          · exact h y hy
          · obtain rfl:=List.mem_singleton.1 hy
            simpa using hf
        · split at hs
          · cases hs
            unfold Ts.blame
            split
            · exact h
            · exact h
          · cases hs
theorem MainOk.run {c:Cfg}(hc:c.Ok):∀(n:Nat) {s:Ts},s.Inv c->MainOk s->MainOk (s.run c n)
  |0,_,_,h=>h
  |n+1,s,hI,h=>by
    unfold Ts.run
    split
    · exact h
    · rename_i s' hs
      exact MainOk.run hc n (hI.goes hc hs).1 (h.step hI hs)
theorem MainOk.does {c:Cfg}{s:Ts}{r:Rc}(hI:s.Inv c)(hc:c.Ok)(h:MainOk s):MainOk (s.does c r):=by
  unfold Ts.does
  split
  · exact h
  · split
    · exact h
    · split
      · exact h.run hc _ hI
      · split
        · exact h
        · split
          · exact h
          · split
            · exact h
            · exact h
theorem FitsT.mainOk {c:Cfg}{g:ByteArray->ByteArray}{rs:List Rc}(h:FitsT c g rs)(hc:c.Ok):MainOk (Ts.all c g rs):=by
  have key:∀n,n<=rs.length->MainOk (Ts.all c g (rs.take n)):=λn=>by
    induction n with
    |zero=>intro _ y hy;simp[Ts.all,Ts.start] at hy
    |succ n ih=>
      intro hn
      rw[Ts.step_at (by omega)]
      exact MainOk.does ((h.take n).inv hc).1 hc (ih (by omega))
  have:=key rs.length (Nat.le_refl _)
  rwa [List.take_length] at this
section
open Go.Maps
structure Made (w w':World)(xb:Nat)(c:Cfg)(l:List Fl):Prop where
  up:∃Y mb rb yb,UpIs w' Y xb mb l.length rb yb c (Ts.start (standsL l)) [] false 0 (.slice none 0 0)/\FilesMap w' mb l.length (standsL l)/\w.heap.size<=mb/\w.heap.size<=rb/\¬Y mb/\mb≠xb/\mb≠rb/\∀k,Y k->w.heap.size<=k
  new:w.heap.size<=xb
theorem mNew (c:Cfg)(l:List Fl)(fa:Option Addr)(fn fc:Nat)(w:World)(hc:CfgOk c.lanes c.age c.batch c.window c.retries c.deadline c.queue)(hl:FilesAt w (.slice fa fn fc) l)(hn:l.length<8796093022208)(hsz:∀f∈l,f.1.size<=maxLen):
    Calls prog 37 #[.agg #[.int .i64 c.lanes,.int .i64 c.age,.int .i64 c.batch,.int .i64 c.window,.int .i64 c.retries,.int .i64 c.deadline,.int .i64 c.queue],.slice fa fn fc] w λe w'=>((Good okFl Prod.fst l/\∃xb,e=.returned (.tuple #[.pointer (some ⟨xb,0,none⟩),.int .i64 0])/\Made w w' xb c l)\/(¬Good okFl Prod.fst l/\e=.returned (.tuple #[.pointer none,.int .i64 2])))/\Below w.heap.size w w':=by
  have hC:=mConfig c.lanes c.age c.batch c.window c.retries c.deadline c.queue (w.alloc (.cells #[.int .i64 c.lanes,.int .i64 c.age,.int .i64 c.batch,.int .i64 c.window,.int .i64 c.retries,.int .i64 c.deadline,.int .i64 c.queue] 23))
  have HN:Hid (CfgOk c.lanes c.age c.batch c.window c.retries c.deadline c.queue):=hc
  have HL:Hid (FilesAt w (.slice fa fn fc) l):=hl
  clear hc hl
  generalize CfgOk c.lanes c.age c.batch c.window c.retries c.deadline c.queue=p at hC HN
  go_enter func37,ntmps37
  go_wp2_with fail
  go_fit hC
  rintro e w1 ⟨⟨t,rfl,ht⟩,hb1⟩
  obtain rfl:t=true:=ht.2 HN.out
  have X1:Bx w1 w.heap.size 23 #[.int .i64 c.lanes,.int .i64 c.age,.int .i64 c.batch,.int .i64 c.window,.int .i64 c.retries,.int .i64 c.deadline,.int .i64 c.queue]:=(hb1.block _ (by simp)).trans (Bx.new w _ _)
  have HX1:Hid (Bx w1 w.heap.size 23 #[.int .i64 c.lanes,.int .i64 c.age,.int .i64 c.batch,.int .i64 c.window,.int .i64 c.retries,.int .i64 c.deadline,.int .i64 c.queue]):=X1
  have HB:Hid (Below w.heap.size w w1):=(below_new _ _).trans (hb1.mono (by simp))
  have hFr:=from_any l (.slice fa fn fc) w1 (FilesAt.later HL.out HB.out) hn hsz
  clear ht hb1 hC X1
  go_wp2_with fail
  go_fit hFr
  rintro e w2 ⟨hres,hb2⟩
  rcases hres with ⟨rfl,hg,D,hown,hM⟩|⟨rfl,hg⟩
  · have hml:w1.heap.size<w2.heap.size:=hown.lt
    have hX2:=HX1.out.later hb2
    have x0:=hX2.c 0 (.int .i64 c.lanes)
    have x1:=hX2.c 1 (.int .i64 c.age)
    have x2:=hX2.c 2 (.int .i64 c.batch)
    have x3:=hX2.c 3 (.int .i64 c.window)
    have x4:=hX2.c 4 (.int .i64 c.retries)
    have x5:=hX2.c 5 (.int .i64 c.deadline)
    have x6:=hX2.c 6 (.int .i64 c.queue)
    have hSt:=mStart w2.heap.size w1.heap.size l.length (standsL l) c [] (.slice none 0 0) none (w2.alloc (.cells (machCells c w1.heap.size (.slice none 0 0) (.pointer none)) 135)) (Bx.new _ _ _) (Sl.nil _ _ _) (FilesMap.same (w:=w2) ⟨D,hown,hM⟩ ((below_new w2 _).block _ hml))
    have HG:Hid (Good okFl Prod.fst l):=hg
    have HM:Hid (FilesMap w2 w1.heap.size l.length (standsL l)):=⟨D,hown,hM⟩
    have HB2:Hid (Below w.heap.size w w2):=HB.out.trans (hb2.mono HB.out.size)
    have hs1:=HB.out.size
    clear hb2 hFr hg hown hM hX2 HX1
    unfold machCells at hSt
    go_wp2_with fail
    go_fit hSt
    rintro e w4 ⟨rfl,hS4⟩
    have HS4:Hid _:=hS4
    clear hS4 hSt x0 x1 x2 x3 x4 x5 x6
    go_wp2_with fail
    obtain⟨Y,rb,yb,hUp,hrb,hYk⟩:=HS4.out.up
    have hO:=HS4.out.only
    have hw3:∀o,(w2.alloc o).heap.size=w2.heap.size+1:=λo=>by simp
    rw[hw3] at hrb
    have hYk':∀k,Y k->w2.heap.size+1<=k:=λk hk=>by have:=hYk k hk;rwa [hw3] at this
    refine bodyPost_ret (v:=.tuple #[.pointer (some ⟨w2.heap.size,0,none⟩),.int .i64 0]) (by simp[results,results37,go_sem]) rfl ⟨.inl ⟨HG.out,w2.heap.size,rfl,⟨⟨Y,w1.heap.size,rb,yb,hUp,?_,hs1,by omega,λh=>by have:=hYk' _ h;omega,by omega,by omega,λk hk=>by have:=hYk' k hk;omega⟩,by omega⟩⟩,?_⟩
    · obtain⟨D,h1,h2⟩:=HM.out
      obtain⟨es,clock,hh,hr⟩:=h1
      exact⟨D,⟨es,clock,(hO.block _ (by rw[hw3];omega) (by omega)).trans ((Below.heap_alloc _ _ _ hml).trans hh),hr⟩,h2⟩
    · refine HB2.out.trans ⟨hO.os,hO.tape,hO.output,by have:=hO.size;rw[hw3] at this;omega,λk hk=>?_⟩
      rw[hO.block k (by rw[hw3];omega) (by omega),Below.heap_alloc _ _ _ (by omega)]
  · have HG:Hid (¬Good okFl Prod.fst l):=hg
    have HB2:Hid (Below w.heap.size w w2):=HB.out.trans (hb2.mono HB.out.size)
    clear hb2 hFr hg
    go_wp2_with fail
    exact bodyPost_ret (v:=.tuple #[.pointer none,.int .i64 2]) (by simp[results,results37,go_sem]) rfl ⟨.inr ⟨HG.out,rfl⟩,HB2.out⟩
end
theorem mTree_down (xb mb:Nat)(c:Cfg)(L:List UInt8)(lv:Value)(w:World)(hD:DownIs w xb mb c L lv):
    Calls prog 64 #[.pointer (some ⟨xb,0,none⟩)] w λe w'=>e=.returned (.tuple #[.slice none 0 0,.int .i64 8])/\w'=w:=by
  have c9:w.cell? ⟨xb,9,none⟩=some (.pointer none):=hD.box.cell (i:=9) rfl
  clear hD
  have hT:Calls prog 100 #[.pointer (some ⟨xb,0,none⟩),.func (.func 101) #[] #[]] w λe w'=>e=.returned (.tuple #[.slice none 0 0,.int .i64 8])/\w'=w:=by
    go_enter func100,ntmps100
    go_wp2_with fail
    exact bodyPost_ret (v:=.tuple #[.slice none 0 0,.int .i64 8]) (by simp[results,results100,go_sem]) rfl ⟨rfl,rfl⟩
  go_enter func64,ntmps64
  go_wp2_with fail
  go_fit hT
  rintro e w1 ⟨rfl,rfl⟩
  go_wp2_with fail
  exact bodyPost_ret (v:=.tuple #[.slice none 0 0,.int .i64 8]) (by simp[results,results64,go_sem]) rfl ⟨rfl,rfl⟩
theorem mMain_down (xb mb:Nat)(c:Cfg)(L:List UInt8)(lv:Value)(w:World)(hD:DownIs w xb mb c L lv):
    Calls prog 66 #[.pointer (some ⟨xb,0,none⟩)] w λe w'=>e=.returned (.tuple #[.slice none 0 0,.int .i64 8])/\w'=w:=by
  have c9:w.cell? ⟨xb,9,none⟩=some (.pointer none):=hD.box.cell (i:=9) rfl
  clear hD
  have hT:Calls prog 103 #[.pointer (some ⟨xb,0,none⟩),.func (.func 104) #[] #[]] w λe w'=>e=.returned (.tuple #[.slice none 0 0,.int .i64 8])/\w'=w:=by
    go_enter func103,ntmps103
    go_wp2_with fail
    exact bodyPost_ret (v:=.tuple #[.slice none 0 0,.int .i64 8]) (by simp[results,results103,go_sem]) rfl ⟨rfl,rfl⟩
  go_enter func66,ntmps66
  go_wp2_with fail
  go_fit hT
  rintro e w1 ⟨rfl,rfl⟩
  go_wp2_with fail
  exact bodyPost_ret (v:=.tuple #[.slice none 0 0,.int .i64 8]) (by simp[results,results66,go_sem]) rfl ⟨rfl,rfl⟩
theorem mQueue_down (xb mb:Nat)(c:Cfg)(L:List UInt8)(lv:Value)(w:World)(hD:DownIs w xb mb c L lv):
    Calls prog 27 #[.pointer (some ⟨xb,0,none⟩)] w λe w'=>e=.returned (.tuple #[.slice none 0 0,.int .i64 8])/\w'=w:=by
  have c9:w.cell? ⟨xb,9,none⟩=some (.pointer none):=hD.box.cell (i:=9) rfl
  clear hD
  have hT:Calls prog 71 #[.pointer (some ⟨xb,0,none⟩),.func (.func 72) #[] #[]] w λe w'=>e=.returned (.tuple #[.slice none 0 0,.int .i64 8])/\w'=w:=by
    go_enter func71,ntmps71
    go_wp2_with fail
    exact bodyPost_ret (v:=.tuple #[.slice none 0 0,.int .i64 8]) (by simp[results,results71,go_sem]) rfl ⟨rfl,rfl⟩
  go_enter func27,ntmps27
  go_wp2_with fail
  go_fit hT
  rintro e w1 ⟨rfl,rfl⟩
  go_wp2_with fail
  exact bodyPost_ret (v:=.tuple #[.slice none 0 0,.int .i64 8]) (by simp[results,results27,go_sem]) rfl ⟨rfl,rfl⟩
theorem mTrain_down (xb mb:Nat)(c:Cfg)(L:List UInt8)(lv:Value)(w:World)(hD:DownIs w xb mb c L lv):
    Calls prog 69 #[.pointer (some ⟨xb,0,none⟩)] w λe w'=>e=.returned (.tuple #[.slice none 0 0,.int .i64 8])/\w'=w:=by
  have c9:w.cell? ⟨xb,9,none⟩=some (.pointer none):=hD.box.cell (i:=9) rfl
  clear hD
  have hT:Calls prog 105 #[.pointer (some ⟨xb,0,none⟩),.func (.func 106) #[] #[]] w λe w'=>e=.returned (.tuple #[.slice none 0 0,.int .i64 8])/\w'=w:=by
    go_enter func105,ntmps105
    go_wp2_with fail
    exact bodyPost_ret (v:=.tuple #[.slice none 0 0,.int .i64 8]) (by simp[results,results105,go_sem]) rfl ⟨rfl,rfl⟩
  go_enter func69,ntmps69
  go_wp2_with fail
  go_fit hT
  rintro e w1 ⟨rfl,rfl⟩
  go_wp2_with fail
  exact bodyPost_ret (v:=.tuple #[.slice none 0 0,.int .i64 8]) (by simp[results,results69,go_sem]) rfl ⟨rfl,rfl⟩
theorem mJobs_down (xb mb:Nat)(c:Cfg)(L:List UInt8)(lv:Value)(w:World)(hD:DownIs w xb mb c L lv):
    Calls prog 70 #[.pointer (some ⟨xb,0,none⟩)] w λe w'=>e=.returned (.tuple #[.slice none 0 0,.int .i64 8])/\w'=w:=by
  have c9:w.cell? ⟨xb,9,none⟩=some (.pointer none):=hD.box.cell (i:=9) rfl
  clear hD
  have hT:Calls prog 107 #[.pointer (some ⟨xb,0,none⟩),.func (.func 108) #[] #[]] w λe w'=>e=.returned (.tuple #[.slice none 0 0,.int .i64 8])/\w'=w:=by
    go_enter func107,ntmps107
    go_wp2_with fail
    exact bodyPost_ret (v:=.tuple #[.slice none 0 0,.int .i64 8]) (by simp[results,results107,go_sem]) rfl ⟨rfl,rfl⟩
  go_enter func70,ntmps70
  go_wp2_with fail
  go_fit hT
  rintro e w1 ⟨rfl,rfl⟩
  go_wp2_with fail
  exact bodyPost_ret (v:=.tuple #[.slice none 0 0,.int .i64 8]) (by simp[results,results70,go_sem]) rfl ⟨rfl,rfl⟩
theorem info_apw:(prog.info? 71).map (λi=>(i.zero,i.size,i.bytes))=some (some (.agg #[.int .i64 0,.int .i64 0,.int .i64 0]),3,24):=by kernel_rfl
abbrev Tw:=Nat×Nat×Nat
def cT (x:Tw):List Value:=[.int .i64 x.1,.int .i64 x.2.1,.int .i64 x.2.2]
def tOf (x:Pw):Tw:=(x.1.id,x.1.lane,x.1.passed)
theorem yQueue (age:Nat)(ha:1<=age/\age<9)(yb:Nat)(q:List Pw)(v:Value)(cs:Array Value)(w:World)(hB:Bx w yb 201 cs)(h9:cs[9]? =some v)(hS:Sl w 193 6 v q.length (q.flatMap (cP age)))(H:∀x∈q,x.1.lane<1000/\x.1.passed<4611686018427387904/\IsSl x.2)(hn:q.length<=16)(q0:List Pw)(hq0:q0.Perm q)(hd:q0.Pairwise λx y=>ordOf x<ordOf y):
    Calls prog 72 #[.pointer (some ⟨yb,0,none⟩)] w λe w'=>(∃v',e=.returned v'/\w'.ownsRow w.heap.size 71 3 v' q.length (((rkG (laneOf age) q0 1000).map tOf).flatMap cT))/\Below w.heap.size w w':=by
  obtain⟨i0,hi,hz0,hz1,hz2⟩:=info_parts info_apw
  have hR:=yByRank age ha q v w hS H hn q0 hq0 hd
  have c9:=hB.cell h9
  have H0:∀x∈q0,x.1.lane<1000/\x.1.passed<4611686018427387904/\IsSl x.2:=λx hx=>H x (hq0.mem_iff.1 hx)
  have hrl:=(rkG_len (age:=age) H0).trans hq0.length_eq
  have hsl:Hid (∀x∈rkG (laneOf age) q0 1000,IsSl x.2):=λx hx=>(H0 x ((rkG_perm λx hx=>Nat.lt_of_le_of_lt (Nat.sub_le _ _) (H0 x hx).1).mem_iff.1 hx)).2.2
  obtain⟨va,vc,rfl⟩:=hS.form
  clear hB hS H H0 hd hq0 h9
  generalize rkG (laneOf age) q0 1000=r at *
  go_enter func72,ntmps72
  go_wp2_with fail
  go_fit hR
  rintro e w1 ⟨⟨v1,rfl,hs1,_⟩,hb1⟩
  obtain⟨a1,c1,rfl⟩:=hs1.form
  clear hR
  go_wp2_with fail
  have HR1:Hid (Sl w1 193 6 (.slice a1 q.length c1) q.length (r.flatMap (cP age))):=hs1
  have HB1:Hid (Below w.heap.size w w1):=hb1
  clear hs1 hb1 c9
  go_loopw [3,12] (λlv iv wr=>∃k:Nat,k<=q.length/\iv=.int .i64 k/\Hid (wr.ownsRow w1.heap.size 71 3 lv k (((r.take k).map tOf).flatMap cT))/\Hid (Below w1.heap.size w1 wr)) (λ_ i _=>q.length-(intOf i).toNat)
  case atStart=>exact⟨0,Nat.zero_le _,rfl,World.ownsRow_nil _ _ _ _,Below.refl _ _⟩
  case round=>
    obtain⟨k,hk,rfl,hr,hb⟩:=hrel
    by_cases hlk:k<q.length
    · have hlr:k<r.length:=by omega
      obtain⟨g,off,cap,hv,_⟩:=HR1.out.addr (by omega)
      have hS:Hid (Sl w1 193 6 (.slice (some ⟨g,off,none⟩) q.length cap) q.length (r.flatMap (cP age))):=by have:=HR1.out;rw[hv] at this;exact this
      injection hv with hva _ hvc
      subst hva hvc
      have kk:∀j (u:Value),j<6->(cP age r[k])[j]? =some u->wr.cell? ⟨g,off+k*6+j,none⟩=some u:=λj u hj hu=>by
        have:=hS.out.cell (j:=k*6+j) (u:=u) (by rw[flat_get (cP age) 6 (λ_=>rfl) r k j hlr hj];exact hu)
        rw[Nat.add_assoc];exact jcell_after hb.out this
      obtain⟨ea,en,ec,he⟩:=hsl.out _ (List.getElem_mem hlr)
      have d0:wr.cell? ⟨g,off+k*6,none⟩=some (.int .i64 r[k].1.id):=kk 0 _ (by decide) rfl
      have d1:=kk 1 (.int .i64 r[k].1.lane) (by decide) rfl
      have d2:=kk 2 (.int .i64 r[k].1.passed) (by decide) rfl
      have d3:=kk 3 (.int .i64 age) (by decide) rfl
      have d4:=kk 4 (.int .i64 r[k].1.ord) (by decide) rfl
      have d5:=kk 5 (.slice ea en ec) (by decide) (by rw[<-he];rfl)
      have HW:Hid (((r.take (k+1)).map tOf).flatMap cT=((r.take k).map tOf).flatMap cT++[.int .i64 r[k].1.id,.int .i64 r[k].1.lane,.int .i64 r[k].1.passed]):=by
        show _=_
        rw[List.take_succ_eq_append_getElem hlr,List.map_append,List.flatMap_append];simp[cT,tOf]
      generalize r[k].1.id=x0 at *
      generalize r[k].1.lane=x1 at *
      generalize r[k].1.passed=x2 at *
      generalize r[k].1.ord=x4 at *
      clear he kk
      have q1:Hid (k+1<=maxLen):=by show _<=_;unfold maxLen;omega
      have q2:Hid ((k+1)*24<=140737488355328):=by show _<=_;omega
      have q3:Hid (∀o o',w1.heap.size<=((wr.alloc o).alloc o').heap.size):=λo o'=>by
        have:=hb.out.size
        show w1.heap.size<=_
        simp;omega
      go_wp2_with (at_builtin;refine wpList_append_own_at _ rfl (.tmp 16) (.tmp 19) _ rfl w1.heap.size _ i0 _ 3 24 underlying61 hi hz0 hz1 hz2 rfl (by decide) u3 _ _ rfl (World.ownsRow.alloc (World.ownsRow.alloc hr.out _) _) ⟨wr.heap.size+1,0,none⟩ 1 1 [.int .i64 x0,.int .i64 x1,.int .i64 x2] rfl rfl (cells_new2 wr _ _ _) (by simp[Value.oneCell']) q1.out q2.out (q3.out _ _) ?_;intro v3 w3 hown3 hg3 hnil3 hloc3)
      refine⟨⟨k+1,hlk,by go_num,?_,?_⟩,by simp[intOf];omega⟩
      · show w3.ownsRow _ _ _ _ _ _
        rw[HW.out]
        exact hown3
      · exact((hb.out.alloc hb.out.size _).alloc (q3' hb.out _) _).grown hg3 (q3.out _ _) (λj hj=>(World.ownsRow.lt hr.out j hj).1)
    · obtain rfl:k=q.length:=by omega
      have hr':Hid (wr.ownsRow w.heap.size 71 3 u3 q.length ((r.map tOf).flatMap cT)):=by
        have:=row_low hr.out (base':=w.heap.size) HB1.out.size
        rwa [List.take_of_length_le (by omega)] at this
      have HB:Hid (Below w.heap.size w wr):=below_trans HB1.out hb.out
      obtain⟨a4,c4,rfl⟩:=row_shape3 hr'.out
      clear hr
      go_wp2_with fail
      go_ret
      exact⟨⟨_,rfl,hr'.out⟩,HB.out⟩
def tC (x:Ch):Tw:=(x.id,x.lane,x.passed)
def tellQ (age:Nat)(q:List Ch):List Tw:=(rkG (laneC age) q 4).map tC
theorem tellQ_len {age:Nat}{q:List Ch}(hl:∀x∈q,x.lane<4):(tellQ age q).length=q.length:=by
  rw[tellQ,List.length_map]
  exact(rkG_perm λx hx=>Nat.lt_of_le_of_lt (Nat.sub_le _ _) (hl x hx)).length_eq
def ToldQ (w w':World)(e:Ending)(age:Nat)(q:List Ch):Prop:=∃v',e=.returned (.tuple #[v',.int .i64 0])/\w'.ownsRow w.heap.size 71 3 v' (tellQ age q).length ((tellQ age q).flatMap cT)
theorem mQueue_up (Y:Nat->Prop)(xb mb n0 rb yb:Nat)(c:Cfg)(s:Ts)(L:List UInt8)(br:Bool)(keep:Int)(lv:Value)(w:World)(hU:UpIs w Y xb mb n0 rb yb c s L br keep lv)(hI:s.Inv c)(hc:c.Ok)(hi:s.ids.length<1048576000):
    Calls prog 27 #[.pointer (some ⟨xb,0,none⟩)] w λe w'=>ToldQ w w' e c.age s.queue/\Below w.heap.size w w':=by
  obtain⟨q,sb,qv,ov,xt,hy,hx⟩:=hU.yard
  obtain⟨q0,hp,hq0,hd,hrk,hrp⟩:=hy.ranks hI hc
  obtain⟨H,hn⟩:=hy.small hI hc hi
  have hT:=yQueue c.age ⟨hc.2.1.1,by have:=hc.2.1.2;omega⟩ yb q qv _ w hy.box rfl hy.que.row H hn q0 hp hd
  have hl4:∀x∈s.queue,x.lane<4:=λx hx=>by have:=(hI.top x hx).2.1;have:=hc.1.2;omega
  have he:(rkG (laneOf c.age) q0 1000).map tOf=tellQ c.age s.queue:=by
    have:tellQ c.age s.queue=(s.ranked c).map tC:=rfl
    rw[this,<-hrk,List.map_map];rfl
  rw[he,hy.qlen,<-tellQ_len (age:=c.age) hl4] at hT
  have c9:w.cell? ⟨xb,9,none⟩=some (.pointer (some ⟨rb,0,none⟩)):=hU.box.cell (i:=9) rfl
  have r0:w.cell? ⟨rb,0,none⟩=some (.pointer (some ⟨yb,0,none⟩)):=hU.run.cell (i:=0) rfl
  clear hU hy hI hl4 he hrk hrp hq0 hd hp H hn hx
  unfold ToldQ
  generalize tellQ c.age s.queue=tq at *
  have hTell:Calls prog 71 #[.pointer (some ⟨xb,0,none⟩),.func (.func 72) #[] #[]] w λe w'=>(∃v',e=.returned (.tuple #[v',.int .i64 0])/\w'.ownsRow w.heap.size 71 3 v' tq.length (tq.flatMap cT))/\Below w.heap.size w w':=by
    go_enter func71,ntmps71
    go_wp2_with fail
    go_fit hT
    rintro e w1 ⟨⟨v1,rfl,h3⟩,hb⟩
    obtain⟨a1,c1,rfl⟩:=row_shape3 h3
    have H3:Hid (w1.ownsRow w.heap.size 71 3 (.slice a1 tq.length c1) tq.length (tq.flatMap cT)):=h3
    clear h3 hT
    go_wp2_with fail
    refine bodyPost_ret (by simp[results,results71,go_sem];rfl) rfl ⟨⟨_,by rfl,H3.out⟩,hb⟩
  clear hT
  go_enter func27,ntmps27
  go_wp2_with fail
  go_fit hTell
  rintro e w1 ⟨⟨v1,rfl,h3⟩,hb⟩
  obtain⟨a1,c1,rfl⟩:=row_shape3 h3
  have H3:Hid (w1.ownsRow w.heap.size 71 3 (.slice a1 tq.length c1) tq.length (tq.flatMap cT)):=h3
  clear h3 hTell
  go_wp2_with fail
  refine bodyPost_ret (by simp[results,results27,go_sem];rfl) rfl ⟨⟨_,by rfl,H3.out⟩,hb⟩
def Sg.cancel (σ:Sg)(id:Int)(err:Int):Int×Sg:=σ.act err ⟨2,0,id.toNat,false,[]⟩
def Sg.ack (σ:Sg)(m:Int)(err:Int):Int×Sg:=σ.act err ⟨6,0,m.toNat,false,[]⟩
def Sg.sub (σ:Sg)(id lane:Int)(es:List Ed)(err:Int):Int×Sg:=σ.act err ⟨1,lane.toNat,id.toNat,false,es⟩
def Sg.brk (σ:Sg)(k:Int):Int×Sg:=if σ.up=false then (8,σ) else (0,{σ with br:=true,keep:=k})
def Sg.crash (σ:Sg):Int×Sg:=if σ.up=false then (8,σ) else (0,{σ with up:=false,T:=[],br:=false})
def Sg.recover (σ:Sg):Int×Sg:=if σ.up=false then (0,{σ with rs:=σ.rs++[rc7],up:=true,T:=[],br:=false}) else (9,σ)
def CanErr (s:Ts)(id err:Int):Prop:=((∃x∈s.queue,(x.id:Int)=id)/\err=0)\/((¬∃x∈s.queue,(x.id:Int)=id)/\err=5)
def AckErr (s:Ts)(m err:Int):Prop:=((s.acked<s.outs.length/\m=(s.acked:Int)+1)/\err=0)\/((¬(s.acked<s.outs.length/\m=(s.acked:Int)+1))/\err=5)
theorem can_can {c:Cfg}{g:ByteArray->ByteArray}{rs:List Rc}{id err:Int}(h:CanErr (Ts.all c g rs) id err)(hI:(Ts.all c g rs).Inv c)(he:err=0):(Ts.all c g rs).Can c ⟨2,0,id.toNat,false,[]⟩/\id=(id.toNat:Int):=by
  rcases h with ⟨⟨x,hx,hid⟩,_⟩|⟨_,h⟩
  · have hxi:=(hI.top x hx).2.2.2.1
    have e:id=(id.toNat:Int):=by omega
    exact⟨⟨by simp,by simp;omega,λh=>(by cases h),λ_=>⟨x,hx,by simp;omega⟩,λh=>(by cases h),λh=>(by cases h),λh=>(by cases h)⟩,e⟩
  · omega
theorem ack_can {c:Cfg}{g:ByteArray->ByteArray}{rs:List Rc}{m err:Int}(h:AckErr (Ts.all c g rs) m err)(hl:(Ts.all c g rs).outs.length<1048576000)(he:err=0):(Ts.all c g rs).Can c ⟨6,0,m.toNat,false,[]⟩/\m=(m.toNat:Int):=by
  rcases h with ⟨⟨h1,h2⟩,_⟩|⟨_,h⟩
  · exact⟨⟨by simp,by simp;omega,λh=>(by cases h),λh=>(by cases h),λh=>(by cases h),λh=>(by cases h),λ_=>h1⟩,by omega⟩
  · omega
theorem sub_can {c:Cfg}{g:ByteArray->ByteArray}{rs:List Rc}{id lane err:Int}{es:List Ed}(h:SubErr c (Ts.all c g rs) id lane es err)(he:err=0):(Ts.all c g rs).Can c ⟨1,lane.toNat,id.toNat,false,es⟩/\id=(id.toNat:Int)/\lane=(lane.toNat:Int)/\Small es:=by
  subst he
  rcases h with ⟨_,h⟩|⟨_,_,h⟩|⟨_,_,_,h⟩|⟨⟨h1,h2,h3,h4,h5⟩,h6,h7,_⟩
  · omega
  · omega
  · omega
  · have hs:=eds_small h5
    exact⟨⟨by simp,by simp;omega,λ_=>⟨by simp;omega,h6,h7,by simp;omega,h5⟩,λh=>(by cases h),λh=>(by cases h),λh=>(by cases h),λh=>(by cases h)⟩,by omega,by omega,hs⟩
theorem can_fun {s:Ts}{id e e':Int}(h:CanErr s id e)(h':CanErr s id e'):e=e':=by
  rcases h with ⟨h,rfl⟩|⟨h,rfl⟩<;>rcases h' with ⟨h',rfl⟩|⟨h',rfl⟩<;>first|rfl|exact absurd h h'|exact absurd h' h
theorem ack_fun {s:Ts}{id e e':Int}(h:AckErr s id e)(h':AckErr s id e'):e=e':=by
  rcases h with ⟨h,rfl⟩|⟨h,rfl⟩<;>rcases h' with ⟨h',rfl⟩|⟨h',rfl⟩<;>first|rfl|exact absurd h h'|exact absurd h' h
theorem sub_fun {c:Cfg}{s:Ts}{id lane:Int}{es:List Ed}{e e':Int}(h:SubErr c s id lane es e)(h':SubErr c s id lane es e'):e=e':=by
  unfold SubErr at h h'
  rcases h with ⟨a,rfl⟩|⟨a,b,rfl⟩|⟨a,b,d,rfl⟩|⟨a,b,d,rfl⟩<;>rcases h' with ⟨a',rfl⟩|⟨a',b',rfl⟩|⟨a',b',d',rfl⟩|⟨a',b',d',rfl⟩<;>first|rfl|exact absurd a a'|exact absurd a' a|exact absurd b b'|exact absurd b' b|omega
theorem does2 (c:Cfg)(s:Ts)(id:Nat):s.does c ⟨2,0,id,false,[]⟩={s with queue:=s.queue.filter λc=>c.id !=id,outs:=s.outs++[(id,4)]}:=by simp[Ts.does]
theorem does6 (c:Cfg)(s:Ts)(id:Nat):s.does c ⟨6,0,id,false,[]⟩={s with acked:=s.acked+1}:=by simp[Ts.does]
theorem does1 (c:Cfg)(s:Ts)(id lane:Nat)(es:List Ed):s.does c ⟨1,lane,id,false,es⟩={s with ids:=s.ids++[id],queue:=s.queue++[⟨id,lane,0,s.ids.length,es⟩]}:=by simp[Ts.does]
theorem pCancel (X:Nat->Prop)(xb:Nat)(c:Cfg)(σ:Sg)(n:Nat)(g:ByteArray->ByteArray)(id err:Int)(w:World)(hP:ProgIs w X xb c σ n g)(hσ:σ.Ok c g)(hc:c.Ok)(hn:σ.rs.length<1048576)(he:CanErr (Ts.all c g σ.rs) id err):
    Calls prog 40 #[.pointer (some ⟨xb,0,none⟩),.int .i64 id] w λe w'=>PDid w w' e X xb c n g (σ.cancel id err):=by
  obtain⟨hI,hFw⟩:=hσ.fits.inv hc
  have hF1:=hFw.ids
  have hcnt:=hI.cnt
  have hq16:(Ts.all c g σ.rs).queue.length<=16:=Nat.le_trans hI.len hc.2.2.2.2.2.2.2
  refine mCancel_of xb id _ (λw'=>∃X',ProgIs w' X' xb c (σ.cancel id err).2 n g/\Grows w w' X X') w (pAct X xb c σ n g 2 0 id 0 false none 0 0 ⟨2,0,id.toNat,false,[]⟩ err w hP hσ hc hn (λh=>(can_can he hI h).1) ?_ ?_ ?_)
  · intro W Y yb mb _ hY
    refine(yCheck2 Y yb mb n c _ id W hY hq16).mono ?_
    rintro e W' ⟨h,hb⟩
    refine⟨?_,hb⟩
    rcases h with ⟨h,rfl⟩|⟨h,rfl⟩
    · rw[can_fun he (.inl ⟨h,rfl⟩)]
    · rw[can_fun he (.inr ⟨h,rfl⟩)]
  · intro h0 W _
    obtain⟨hcan,hid⟩:=can_can he hI h0
    have:=prog_bytes ⟨2,0,id.toNat,false,[]⟩ (hcan.ok hc) none 0 0 W (λh=>by cases h)
    simp[progR,<-hid] at this
    exact this
  · intro h0 W Y yb mb _ hY
    obtain⟨hcan,hid⟩:=can_can he hI h0
    have:=yDo2 Y yb mb n id.toNat c _ W hY hq16 (hcan.cancel rfl) (by omega) hI.ack
    rw[<-hid,<-does2 c] at this
    exact this
theorem pAck (X:Nat->Prop)(xb:Nat)(c:Cfg)(σ:Sg)(n:Nat)(g:ByteArray->ByteArray)(m err:Int)(w:World)(hP:ProgIs w X xb c σ n g)(hσ:σ.Ok c g)(hc:c.Ok)(hn:σ.rs.length<1048576)(he:AckErr (Ts.all c g σ.rs) m err):
    Calls prog 79 #[.pointer (some ⟨xb,0,none⟩),.int .i64 m] w λe w'=>PDid w w' e X xb c n g (σ.ack m err):=by
  obtain⟨hI,hFw⟩:=hσ.fits.inv hc
  have hF1:=hFw.ids
  have hcnt:=hI.cnt
  refine mAck_of xb m _ (λw'=>∃X',ProgIs w' X' xb c (σ.ack m err).2 n g/\Grows w w' X X') w (pAct X xb c σ n g 6 0 0 m false none 0 0 ⟨6,0,m.toNat,false,[]⟩ err w hP hσ hc hn (λh=>(ack_can he (by omega) h).1) ?_ ?_ ?_)
  · intro W Y yb mb _ hY
    refine(yCheck6 Y yb mb n c _ m W hY hI.ack).mono ?_
    rintro e W' ⟨h,hb⟩
    refine⟨?_,hb⟩
    rcases h with ⟨h,rfl⟩|⟨h,rfl⟩
    · rw[ack_fun he (.inl ⟨h,rfl⟩)]
    · rw[ack_fun he (.inr ⟨h,rfl⟩)]
  · intro h0 W _
    obtain⟨hcan,hid⟩:=ack_can (c:=c) (g:=g) he (by omega) h0
    have:=prog_bytes ⟨6,0,m.toNat,false,[]⟩ (hcan.ok hc) none 0 0 W (λh=>by cases h)
    simp[progR,<-hid] at this
    exact this
  · intro h0 W Y yb mb _ hY
    obtain⟨hcan,hid⟩:=ack_can (c:=c) (g:=g) he (by omega) h0
    have:=yDo6 Y yb mb n m c _ W hY (hcan.ack rfl)
    rw[<-does6 c _ m.toNat] at this
    exact this
theorem pSubmit (X:Nat->Prop)(xb:Nat)(c:Cfg)(σ:Sg)(n:Nat)(g:ByteArray->ByteArray)(id lane err:Int)(es:List Ed)(ea:Option Addr)(ec:Nat)(w:World)(hP:ProgIs w X xb c σ n g)(hσ:σ.Ok c g)(hc:c.Ok)(hn:σ.rs.length<1048576)(he:SubErr c (Ts.all c g σ.rs) id lane es err)(hE:EditsAt w (.slice ea es.length ec) es)(hcap:es.length<=ec)(hen:es.length<8796093022208)(hX:∀b,(Value.slice ea es.length ec).ownBlock=some b->¬X b):
    Calls prog 31 #[.pointer (some ⟨xb,0,none⟩),.int .i64 id,.int .i64 lane,.slice ea es.length ec] w λe w'=>PDid w w' e X xb c n g (σ.sub id lane es err):=by
  obtain⟨hI,hFw⟩:=hσ.fits.inv hc
  have hF1:=hFw.ids
  have hcnt:=hI.cnt
  have hq16:(Ts.all c g σ.rs).queue.length<=16:=Nat.le_trans hI.len hc.2.2.2.2.2.2.2
  have key:err=0->∃b off,ea=some ⟨b,off,none⟩/\b<w.heap.size/\(∀i (h:i<es.length),w.cell? ⟨b,off+i*3,none⟩=some (.string es[i].1))/\(∀i (h:i<es.length),w.cell? ⟨b,off+i*3+1,none⟩=some (.string es[i].2.1))/\(∀i (h:i<es.length),w.cell? ⟨b,off+i*3+2,none⟩=some (.string es[i].2.2)):=λh0=>by
    have hok:EditsOK es:=by
      subst h0
      rcases he with ⟨_,h⟩|⟨_,_,h⟩|⟨_,_,_,h⟩|⟨h,_⟩
      · omega
      · omega
      · omega
      · exact h.2.2.2.2
    rcases hE with ⟨rfl,_⟩|⟨b,off,cap,hv,h1,h2,h3,h4⟩
    · have:=hok.1;simp at this
    · injection hv with hv _ _
      exact⟨b,off,hv,h1,h2,h3,h4⟩
  refine mSubmit_of xb id lane ea es.length ec _ (λw'=>∃X',ProgIs w' X' xb c (σ.sub id lane es err).2 n g/\Grows w w' X X') w (pAct X xb c σ n g 1 lane id 0 false ea es.length ec ⟨1,lane.toNat,id.toNat,false,es⟩ err w hP hσ hc hn (λh=>(sub_can he h).1) ?_ ?_ ?_)
  · intro W Y yb mb hb hY
    refine(yCheck1 Y yb mb n c _ id lane es ea es.length ec W hY (hE.later hb) hcap hen hq16).mono ?_
    rintro e W' ⟨⟨k,rfl,hk⟩,hb⟩
    exact⟨by rw[sub_fun he hk],hb⟩
  · intro h0 W hb
    obtain⟨hcan,hid,hla,hsm⟩:=sub_can he h0
    obtain⟨b,off,rfl,hlt,e0,e1,e2⟩:=key h0
    have:=prog_bytes ⟨1,lane.toNat,id.toNat,false,es⟩ (hcan.ok hc) (some ⟨b,off,none⟩) es.length ec W (λ_=>⟨b,off,rfl,rfl,Nat.lt_of_lt_of_le hlt hb.size,λi hi=>jcell_after hb (e0 i hi),λi hi=>jcell_after hb (e1 i hi),λi hi=>jcell_after hb (e2 i hi)⟩)
    simp[progR,<-hid,<-hla] at this
    exact this
  · intro h0 W Y yb mb hO hY
    obtain⟨hcan,hid,hla,hsm⟩:=sub_can he h0
    obtain⟨b,off,rfl,hlt,e0,e1,e2⟩:=key h0
    have nX:=hX b rfl
    obtain⟨s1,s2,s3,s4,s5⟩:=hcan.sub rfl
    have:=yDo1 Y yb mb n id.toNat lane.toNat 0 false b off ec es c _ W hY hq16 hsm s1 s2 (by omega) (Nat.lt_of_lt_of_le hlt hO.size) (λi hi=>only_cell hO nX (e0 i hi)) (λi hi=>only_cell hO nX (e1 i hi)) (λi hi=>only_cell hO nX (e2 i hi))
    rw[<-does1 c] at this
    unfold recC at this
    rw[<-hid,<-hla] at this
    exact this
def Sg.pump (σ:Sg):Int×Sg:=σ.act 0 ⟨3,0,0,false,[]⟩
def Sg.answer (σ:Sg)(num:Int)(pass:Bool)(err:Int):Int×Sg:=σ.act err ⟨4,0,num.toNat,pass,[]⟩
def Sg.tick (σ:Sg)(m:Int)(err:Int):Int×Sg:=σ.act err ⟨5,0,m.toNat,false,[]⟩
def AnsErr (s:Ts)(num err:Int):Prop:=((∃x∈s.segs,x.runsI num=true)/\err=0)\/((¬∃x∈s.segs,x.runsI num=true)/\err=6)
def TickErr (m err:Int):Prop:=((1<=m/\m<=1000)/\err=0)\/((¬(1<=m/\m<=1000))/\err=7)
theorem Sm.runsI_iff (x:Sm)(num:Int):x.runsI num=true↔∃j,x.job=some j/\(j.num:Int)=num:=by
  unfold Sm.runsI
  split
  · rename_i j e
    simp[e]
  · rename_i e
    simp[e]
theorem ans_fun {s:Ts}{id e e':Int}(h:AnsErr s id e)(h':AnsErr s id e'):e=e':=by
  rcases h with ⟨h,rfl⟩|⟨h,rfl⟩<;>rcases h' with ⟨h',rfl⟩|⟨h',rfl⟩<;>first|rfl|exact absurd h h'|exact absurd h' h
theorem tick_fun {id e e':Int}(h:TickErr id e)(h':TickErr id e'):e=e':=by
  rcases h with ⟨h,rfl⟩|⟨h,rfl⟩<;>rcases h' with ⟨h',rfl⟩|⟨h',rfl⟩<;>first|rfl|exact absurd h h'|exact absurd h' h
theorem pump_can {c:Cfg}{s:Ts}:s.Can c ⟨3,0,0,false,[]⟩:=⟨by simp,by simp,λh=>(by cases h),λh=>(by cases h),λh=>(by cases h),λh=>(by cases h),λh=>(by cases h)⟩
theorem tick_can {c:Cfg}{s:Ts}{m err:Int}(h:TickErr m err)(he:err=0):s.Can c ⟨5,0,m.toNat,false,[]⟩/\m=(m.toNat:Int):=by
  rcases h with ⟨⟨h1,h2⟩,_⟩|⟨_,h⟩
  · exact⟨⟨by simp,by simp;omega,λh=>(by cases h),λh=>(by cases h),λh=>(by cases h),λ_=>by simp;omega,λh=>(by cases h)⟩,by omega⟩
  · omega
theorem ans_can {c:Cfg}{s:Ts}{num err:Int}{pass:Bool}(h:AnsErr s num err)(hI:s.Inv c)(hb:s.begun<1048576000)(he:err=0):s.Can c ⟨4,0,num.toNat,pass,[]⟩/\num=(num.toNat:Int):=by
  rcases h with ⟨⟨x,hx,hr⟩,_⟩|⟨_,h⟩
  · obtain⟨j,ej,hn⟩:=(Sm.runsI_iff x num).1 hr
    have hj:=((hI.sm x hx).job j ej).2.2.2.1
    have e:num=(num.toNat:Int):=by omega
    exact⟨⟨by simp,by simp;omega,λh=>(by cases h),λh=>(by cases h),λ_=>⟨x,hx,(Sm.runs_iff _ _).2 ⟨j,ej,by simp only;omega⟩⟩,λh=>(by cases h),λh=>(by cases h)⟩,e⟩
  · omega
theorem does3 (c:Cfg)(s:Ts):s.does c ⟨3,0,0,false,[]⟩=s.pump c:=by simp[Ts.does]
theorem does4 (c:Cfg)(s:Ts)(num:Nat)(pass:Bool):s.does c ⟨4,0,num,pass,[]⟩=s.answer num pass:=by simp[Ts.does]
theorem does5 (c:Cfg)(s:Ts)(m:Nat):s.does c ⟨5,0,m,false,[]⟩=s.tick m:=by simp[Ts.does]
theorem pPump (X:Nat->Prop)(xb:Nat)(c:Cfg)(σ:Sg)(n:Nat)(g:ByteArray->ByteArray)(w:World)(hP:ProgIs w X xb c σ n g)(hσ:σ.Ok c g)(hc:c.Ok)(hn:σ.rs.length<1048576)(h0:n<1048576000):
    Calls prog 30 #[.pointer (some ⟨xb,0,none⟩)] w λe w'=>PDid w w' e X xb c n g σ.pump:=by
  obtain⟨hI,hFw⟩:=hσ.fits.inv hc
  have f1:=hFw.ids
  have f2:=hFw.begun
  have f3:=hFw.now
  refine mPump_of xb _ (λw'=>∃X',ProgIs w' X' xb c σ.pump.2 n g/\Grows w w' X X') w (pAct X xb c σ n g 3 0 0 0 false none 0 0 ⟨3,0,0,false,[]⟩ 0 w hP hσ hc hn (λ_=>pump_can) ?_ ?_ ?_)
  · intro W Y yb mb _ hY
    exact yCheck3 yb W
  · intro _ W _
    exact prog_bytes ⟨3,0,0,false,[]⟩ ((pump_can (s:=Ts.all c g σ.rs)).ok hc) none 0 0 W (λh=>by cases h)
  · intro _ W Y yb mb _ hY
    have:=yDo3 Y yb mb n 0 0 0 none 0 0 false c _ W hY hI hc (by omega) h0 (by omega) (by omega)
    rw[<-does3] at this
    exact this
theorem pAnswer (X:Nat->Prop)(xb:Nat)(c:Cfg)(σ:Sg)(n:Nat)(g:ByteArray->ByteArray)(num err:Int)(pass:Bool)(w:World)(hP:ProgIs w X xb c σ n g)(hσ:σ.Ok c g)(hc:c.Ok)(hn:σ.rs.length<1048576)(he:AnsErr (Ts.all c g σ.rs) num err):
    Calls prog 44 #[.pointer (some ⟨xb,0,none⟩),.int .i64 num,.bool pass] w λe w'=>PDid w w' e X xb c n g (σ.answer num pass err):=by
  obtain⟨hI,hFw⟩:=hσ.fits.inv hc
  have f2:=hFw.begun
  refine mAnswer_of xb num pass _ (λw'=>∃X',ProgIs w' X' xb c (σ.answer num pass err).2 n g/\Grows w w' X X') w (pAct X xb c σ n g 4 0 0 num pass none 0 0 ⟨4,0,num.toNat,pass,[]⟩ err w hP hσ hc hn (λh=>(ans_can he hI (by omega) h).1) ?_ ?_ ?_)
  · intro W Y yb mb _ hY
    refine(yCheck4 Y yb mb n c _ num pass W hY hI).mono ?_
    rintro e W' ⟨h,hb⟩
    refine⟨?_,hb⟩
    rcases h with ⟨h,rfl⟩|⟨h,rfl⟩
    · rw[ans_fun he (.inl ⟨h,rfl⟩)]
    · rw[ans_fun he (.inr ⟨h,rfl⟩)]
  · intro h0 W _
    obtain⟨hcan,hid⟩:=ans_can (pass:=pass) he hI (by omega) h0
    have:=prog_bytes ⟨4,0,num.toNat,pass,[]⟩ (hcan.ok hc) none 0 0 W (λh=>by cases h)
    simp[progR,<-hid] at this
    exact this
  · intro h0 W Y yb mb _ hY
    obtain⟨hcan,hid⟩:=ans_can (pass:=pass) he hI (by omega) h0
    have:=yDo4 Y yb mb n num.toNat 0 0 none 0 0 pass c _ W hY hI hc
    rw[<-hid,<-does4 c] at this
    exact this
theorem pTick (X:Nat->Prop)(xb:Nat)(c:Cfg)(σ:Sg)(n:Nat)(g:ByteArray->ByteArray)(m err:Int)(w:World)(hP:ProgIs w X xb c σ n g)(hσ:σ.Ok c g)(hc:c.Ok)(hn:σ.rs.length<1048576)(he:TickErr m err):
    Calls prog 46 #[.pointer (some ⟨xb,0,none⟩),.int .i64 m] w λe w'=>PDid w w' e X xb c n g (σ.tick m err):=by
  obtain⟨hI,hFw⟩:=hσ.fits.inv hc
  have f3:=hFw.now
  refine mTick_of xb m _ (λw'=>∃X',ProgIs w' X' xb c (σ.tick m err).2 n g/\Grows w w' X X') w (pAct X xb c σ n g 5 0 0 m false none 0 0 ⟨5,0,m.toNat,false,[]⟩ err w hP hσ hc hn (λh=>(tick_can he h).1) ?_ ?_ ?_)
  · intro W Y yb mb _ hY
    refine(yCheck5 yb m W).mono ?_
    rintro e W' ⟨h,hb⟩
    refine⟨?_,hb⟩
    rcases h with ⟨h,rfl⟩|⟨h,rfl⟩
    · rw[tick_fun he (.inl ⟨h,rfl⟩)]
    · rw[tick_fun he (.inr ⟨h,rfl⟩)]
  · intro h0 W _
    obtain⟨hcan,hid⟩:=tick_can (c:=c) (s:=Ts.all c g σ.rs) he h0
    have:=prog_bytes ⟨5,0,m.toNat,false,[]⟩ (hcan.ok hc) none 0 0 W (λh=>by cases h)
    simp[progR,<-hid] at this
    exact this
  · intro h0 W Y yb mb _ hY
    obtain⟨hcan,hid⟩:=tick_can (c:=c) (s:=Ts.all c g σ.rs) he h0
    have:=yDo5 Y yb mb n m.toNat 0 0 none 0 0 false c _ W hY hI hc (hcan.tick rfl).2 (by omega)
    rw[<-hid,<-does5 c] at this
    exact this
theorem mRecover_up (Y:Nat->Prop)(xb mb n rb yb:Nat)(c:Cfg)(s:Ts)(L:List UInt8)(br:Bool)(keep:Int)(lv:Value)(w:World)(hU:UpIs w Y xb mb n rb yb c s L br keep lv):
    Calls prog 32 #[.pointer (some ⟨xb,0,none⟩)] w λe w'=>e=.returned (.int .i64 9)/\w'=w:=by
  have c9:w.cell? ⟨xb,9,none⟩=some (.pointer (some ⟨rb,0,none⟩)):=hU.box.cell (i:=9) rfl
  clear hU
  go_enter func32,ntmps32
  go_wp2_with fail
  go_ret
  exact⟨rfl,rfl⟩
theorem pBreak (X:Nat->Prop)(xb:Nat)(c:Cfg)(σ:Sg)(n:Nat)(g:ByteArray->ByteArray)(k:Int)(w:World)(hP:ProgIs w X xb c σ n g):
    Calls prog 29 #[.pointer (some ⟨xb,0,none⟩),.int .i64 k] w λe w'=>PDid w w' e X xb c n g (σ.brk k):=by
  rcases hP with ⟨hu,hP⟩|⟨hu,hP⟩
  · have ea:σ.brk k=(0,{σ with br:=true,keep:=k}):=by simp[Sg.brk,hu]
    rw[ea]
    obtain⟨mb,lv,Y,rb,yb,keep',hM,hU,hke,h1,h2,h3,h4,h5,h6,h7⟩:=hP.ex
    refine(mBreak_up Y xb mb n rb yb c _ _ σ.br keep' lv k w hU).mono ?_
    rintro e w' ⟨rfl,hU',hO⟩
    have hs:=hO.size
    exact⟨rfl,X,.inl ⟨hu,⟨⟨mb,lv,Y,rb,yb,k,hM.same (hO.block mb hM.lt h7),hU',λ_=>rfl,h1,h2,h3,h4,h5,h6,h7⟩,hP.fx,λq hq=>Nat.lt_of_lt_of_le (hP.xl q hq) hs⟩⟩,hO.mono λq hq=>by rw[hq];exact h2,λ_ h=>.inl h⟩
  · have ea:σ.brk k=(8,σ):=by simp[Sg.brk,hu]
    rw[ea]
    obtain⟨mb,lv,hM,hD,_⟩:=hP.ex
    refine(mBreak_down xb mb c _ lv k w hD).mono ?_
    rintro e w' ⟨rfl,rfl⟩
    exact .same (.inr ⟨hu,hP⟩) (Below.refl _ _)
theorem pCrash (X:Nat->Prop)(xb:Nat)(c:Cfg)(σ:Sg)(n:Nat)(g:ByteArray->ByteArray)(w:World)(hP:ProgIs w X xb c σ n g):
    Calls prog 50 #[.pointer (some ⟨xb,0,none⟩)] w λe w'=>PDid w w' e X xb c n g σ.crash:=by
  rcases hP with ⟨hu,hP⟩|⟨hu,hP⟩
  · have ea:σ.crash=(0,{σ with up:=false,T:=[],br:=false}):=by simp[Sg.crash,hu]
    rw[ea]
    obtain⟨mb,lv,Y,rb,yb,keep',hM,hU,hke,h1,h2,h3,h4,h5,h6,h7⟩:=hP.ex
    refine(mCrash_up Y xb mb n rb yb c _ _ σ.br keep' lv w hU).mono ?_
    rintro e w' ⟨rfl,hD',hO⟩
    have hs:=hO.size
    refine⟨rfl,X,.inr ⟨rfl,⟨⟨mb,lv,hM.same (hO.block mb hM.lt h6),?_,h1,h4,h6⟩,hP.fx,λq hq=>Nat.lt_of_lt_of_le (hP.xl q hq) hs⟩⟩,hO.mono λq hq=>by rw[hq];exact hP.fx,λ_ h=>.inl h⟩
    show DownIs w' xb mb c (allB σ.rs++[]) lv
    rw[List.append_nil];exact hD'
  · have ea:σ.crash=(8,σ):=by simp[Sg.crash,hu]
    rw[ea]
    obtain⟨mb,lv,hM,hD,_⟩:=hP.ex
    refine(mCrash_down xb mb c _ lv w hD).mono ?_
    rintro e w' ⟨rfl,rfl⟩
    exact .same (.inr ⟨hu,hP⟩) (Below.refl _ _)
theorem torn_len {T:List UInt8}(h:TornOf T):T.length<1100:=by
  obtain⟨r,m,hr,hm,rfl⟩:=h
  have:=Rc.body_lt hr
  rw[List.length_take,recB_len']
  omega
theorem pRecover (X:Nat->Prop)(xb:Nat)(c:Cfg)(σ:Sg)(n:Nat)(g:ByteArray->ByteArray)(w:World)(hP:ProgIs w X xb c σ n g)(hσ:σ.Ok c g)(hc:c.Ok)(hn:σ.rs.length<1048576)(h0:n<1048576000):
    Calls prog 32 #[.pointer (some ⟨xb,0,none⟩)] w λe w'=>PDid w w' e X xb c n g σ.recover:=by
  rcases hP with ⟨hu,hP⟩|⟨hu,hP⟩
  · have ea:σ.recover=(9,σ):=by simp[Sg.recover,hu]
    rw[ea]
    obtain⟨mb,lv,Y,rb,yb,keep',hM,hU,_⟩:=hP.ex
    refine(mRecover_up Y xb mb n rb yb c _ _ σ.br keep' lv w hU).mono ?_
    rintro e w' ⟨rfl,rfl⟩
    exact .same (.inl ⟨hu,hP⟩) (Below.refl _ _)
  · have ea:σ.recover=(0,{σ with rs:=σ.rs++[rc7],up:=true,T:=[],br:=false}):=by simp[Sg.recover,hu]
    rw[ea]
    obtain⟨mb,lv,hM,hD,h1,h2,h3⟩:=hP.ex
    have hal:=allB_len (hσ.fits.ok hc)
    have htl:=torn_len hσ.torn
    refine(mRecover_down xb mb n g c σ.rs σ.T _ lv w hD rfl hσ.torn hσ.fits hc hn (by rw[List.length_append];omega) hM h0).mono ?_
    rintro e w' ⟨rfl,⟨Y,rb,yb,lv',hU,hrb,hY,hls⟩,hO⟩
    have hs:=hO.size
    have hml:=hM.lt
    refine⟨rfl,Upto X w w',.inl ⟨rfl,⟨⟨mb,lv',Y,rb,yb,0,hM.same (hO.block mb hml λe=>?_),?_,λh=>(by cases h),.inl h1,.inr ⟨hrb,hU.run.lt⟩,λk hk=>.inr ⟨hY k hk,hU.yl k hk⟩,λq hq=>?_,λh=>?_,h3,?_⟩,.inl hP.fx,?_⟩⟩,hO.mono λk hk=>?_,λk hk=>hk.imp (λh=>h) (λh=>h.1)⟩
    · rcases e with e|e
      · exact h3 e
      · exact hM.ne_sl hD.log e
    · show UpIs w' Y xb mb n rb yb c (Ts.all c g (σ.rs++[rc7])) (allB (σ.rs++[rc7])) false 0 lv'
      have e7:(Ts.all c g σ.rs).does c rc7=(Ts.all c g σ.rs).lose:=by simp[Ts.does,rc7]
      rw[Ts.all_snoc,allB_snoc,e7];exact hU
    · rcases hls with h|⟨q',h,hl⟩
      · rw[h] at hq;exact .inl (h2 q hq)
      · exact .inr ⟨by rw[h] at hq;cases hq;exact hl,hU.log.lt hq⟩
    · have:=hY mb h;omega
    · omega
    · rintro k (hk|hk)
      · have:=hP.xl k hk;omega
      · exact hk.2
    · rcases hk with hk|hk
      · rw[hk];exact hP.fx
      · exact h2 k hk
def Sg.poll (c:Cfg)(g:ByteArray->ByteArray)(σ:Sg):Int×Int×Int×Int:=
  if σ.up=false then (0,0,0,8) else if h:(Ts.all c g σ.rs).acked<(Ts.all c g σ.rs).outs.length then (((Ts.all c g σ.rs).acked:Int)+1,((Ts.all c g σ.rs).outs[(Ts.all c g σ.rs).acked]'h).1,((Ts.all c g σ.rs).outs[(Ts.all c g σ.rs).acked]'h).2,0) else (0,0,0,5)
def pollV (p:Int×Int×Int×Int):Value:=.tuple #[.agg #[.int .i64 p.1,.int .i64 p.2.1,.int .i64 p.2.2.1],.int .i64 p.2.2.2]
theorem pPoll (X:Nat->Prop)(xb:Nat)(c:Cfg)(σ:Sg)(n:Nat)(g:ByteArray->ByteArray)(w:World)(hP:ProgIs w X xb c σ n g)(hσ:σ.Ok c g)(hc:c.Ok):
    Calls prog 77 #[.pointer (some ⟨xb,0,none⟩)] w λe w'=>e=.returned (pollV (σ.poll c g))/\Below w.heap.size w w':=by
  rcases hP with ⟨hu,hP⟩|⟨hu,hP⟩
  · obtain⟨mb,lv,Y,rb,yb,keep',hM,hU,_⟩:=hP.ex
    by_cases h:(Ts.all c g σ.rs).acked<(Ts.all c g σ.rs).outs.length
    · refine(mPoll_some Y xb mb n rb yb c _ _ σ.br keep' lv w hU h).mono ?_
      rintro e w' ⟨rfl,hb⟩
      exact⟨by simp[Sg.poll,hu,h,pollV],hb⟩
    · refine(mPoll_none Y xb mb n rb yb c _ _ σ.br keep' lv w hU (by have:=(hσ.fits.inv hc).1.ack;omega)).mono ?_
      rintro e w' ⟨rfl,hb⟩
      exact⟨by simp[Sg.poll,hu,h,pollV],hb⟩
  · obtain⟨mb,lv,hM,hD,_⟩:=hP.ex
    refine(mPoll_down xb mb c _ lv w hD).mono ?_
    rintro e w' ⟨rfl,hb⟩
    exact⟨by simp[Sg.poll,hu,pollV],hb⟩
theorem pLog (X:Nat->Prop)(xb:Nat)(c:Cfg)(σ:Sg)(n:Nat)(g:ByteArray->ByteArray)(w:World)(hP:ProgIs w X xb c σ n g)(hσ:σ.Ok c g)(hc:c.Ok)(hn:σ.rs.length<1048576):
    Calls prog 28 #[.pointer (some ⟨xb,0,none⟩)] w λe w'=>e=.returned (.string (bs (allB σ.rs++σ.T)))/\w'=w:=by
  have hal:=allB_len (hσ.fits.ok hc)
  have htl:=torn_len hσ.torn
  rcases hP with ⟨hu,hP⟩|⟨hu,hP⟩
  · obtain⟨mb,lv,Y,rb,yb,keep',hM,hU,_⟩:=hP.ex
    rw[hσ.upT hu,List.append_nil]
    exact mLog xb _ _ lv w hU.box rfl hU.log (by omega)
  · obtain⟨mb,lv,hM,hD,_⟩:=hP.ex
    exact mLog xb _ _ lv w hD.box rfl hD.log (by rw[List.length_append];omega)
def TellsQ (w w':World)(e:Ending)(c:Cfg)(g:ByteArray->ByteArray)(σ:Sg):Prop:=(σ.up=true/\ToldQ w w' e c.age (Ts.all c g σ.rs).queue)\/(σ.up=false/\e=.returned (.tuple #[.slice none 0 0,.int .i64 8]))
theorem pQueue (X:Nat->Prop)(xb:Nat)(c:Cfg)(σ:Sg)(n:Nat)(g:ByteArray->ByteArray)(w:World)(hP:ProgIs w X xb c σ n g)(hσ:σ.Ok c g)(hc:c.Ok)(hn:σ.rs.length<1048576):
    Calls prog 27 #[.pointer (some ⟨xb,0,none⟩)] w λe w'=>TellsQ w w' e c g σ/\Below w.heap.size w w':=by
  rcases hP with ⟨hu,hP⟩|⟨hu,hP⟩
  · obtain⟨mb,lv,Y,rb,yb,keep',hM,hU,_⟩:=hP.ex
    refine(mQueue_up Y xb mb n rb yb c _ _ σ.br keep' lv w hU (hσ.fits.inv hc).1 hc (by have:=(hσ.fits.inv hc).2.ids;omega)).mono ?_
    rintro e w' ⟨h,hb⟩
    exact⟨.inl ⟨hu,h⟩,hb⟩
  · obtain⟨mb,lv,hM,hD,_⟩:=hP.ex
    refine(mQueue_down xb mb c _ lv w hD).mono ?_
    rintro e w' ⟨rfl,rfl⟩
    exact⟨.inr ⟨hu,rfl⟩,Below.refl _ _⟩
def Sg.top (c:Cfg)(g:ByteArray->ByteArray)(n:Nat)(σ:Sg):Nat:=n+4*(Ts.all c g σ.rs).outs.length
def TellsF (w w':World)(e:Ending)(c:Cfg)(σ:Sg)(n:Nat)(g:ByteArray->ByteArray):Prop:=(σ.up=true/\∃(l:List Fl) (b cap:Nat),e=.returned (.tuple #[.slice (some ⟨b,0,none⟩) l.length cap,.int .i64 0])/\Told l (Ts.all c g σ.rs).tip/\l.length<=σ.top c g n/\w'.ownsRow w.heap.size 80 2 (.slice (some ⟨b,0,none⟩) l.length cap) l.length (l.flatMap cF))\/(σ.up=false/\e=.returned (.tuple #[.slice none 0 0,.int .i64 8]))
theorem pTree (X:Nat->Prop)(xb:Nat)(c:Cfg)(σ:Sg)(n:Nat)(g:ByteArray->ByteArray)(w:World)(hP:ProgIs w X xb c σ n g)(hn:σ.top c g n*32<=140737488355328):
    Calls prog 64 #[.pointer (some ⟨xb,0,none⟩)] w λe w'=>TellsF w w' e c σ n g/\Below w.heap.size w w':=by
  rcases hP with ⟨hu,hP⟩|⟨hu,hP⟩
  · obtain⟨mb,lv,Y,rb,yb,keep',hM,hU,_⟩:=hP.ex
    refine(mTree_up Y xb mb n rb yb c _ _ σ.br keep' lv w hU hn).mono ?_
    rintro e w' ⟨h,hb⟩
    exact⟨.inl ⟨hu,h⟩,hb⟩
  · obtain⟨mb,lv,hM,hD,_⟩:=hP.ex
    refine(mTree_down xb mb c _ lv w hD).mono ?_
    rintro e w' ⟨rfl,rfl⟩
    exact⟨.inr ⟨hu,rfl⟩,Below.refl _ _⟩
end Go.Proofs.YtgamgomepdfgdaaGreat
