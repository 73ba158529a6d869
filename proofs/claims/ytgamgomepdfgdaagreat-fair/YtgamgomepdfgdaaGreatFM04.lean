import Derived.OwnWalk
import Derived.Sort.OwnSorted
import Derived.Test.YtgamgomepdfgdaaGreatFM03
import Derived.Test.YtgamgomepdfgdaaGreatFM02
set_option maxRecDepth 100000
set_option maxHeartbeats 8000000
namespace Go.Proofs.YtgamgomepdfgdaaGreat
open Go.RowKit Go.Proofs.Tryz
theorem info49c:(prog.info? 49).map (λi=>(i.zero,i.size,i.bytes))=some (some (.agg #[.string ⟨#[]⟩,.string ⟨#[]⟩,.string ⟨#[]⟩]),3,48):=by kernel_rfl
theorem below_draw {wr w1 w2:World}{o:Obj}(h:Below w1.heap.size w1 w2)(e:w1.heap=(wr.alloc o).heap)(e1:w1.os=wr.os)(e2:w1.tape=wr.tape)(e3:w1.output=wr.output):Below wr.heap.size wr w2:=by
  have h':Below (wr.alloc o).heap.size (wr.alloc o) w2:=⟨h.os.trans e1,h.tape.trans e2,h.output.trans e3,by rw[<-e];exact h.size,λk hk=>by rw[<-e] at hk ⊢;exact h.block k hk⟩
  exact((Below.refl _ _).alloc (Nat.le_refl _) o).trans (h'.mono (by simp))
section
open Go.Maps
theorem standsL_snoc {l:List Fl}{f:Fl}(h:∀x∈l,x.1≠f.1):standsL (l++[f])=upd (standsL l) f.1 f.2:=by
  funext q
  induction l with
  |nil=>simp[standsL,upd]
  |cons x l ih=>
    have ih:=ih λy hy=>h y (by simp[hy])
    have hx:=h x (by simp)
    by_cases e:x.1=q
    · rw[List.cons_append,standsL_hit _ _ _ ((beq_true_iff _ _).2 e),upd_other _ _ (by rw[<-e];exact hx.symm),standsL_hit _ _ _ ((beq_true_iff _ _).2 e)]
    · have hb:=(beq_false_iff x.1 q).2 e
      rw[List.cons_append,standsL_miss _ _ _ hb,ih]
      unfold upd
      rw[standsL_miss _ _ _ hb]
theorem stands_take_iff {l:List Fl}{k:Nat}(hk:k<l.length)(hg:Good okFl Prod.fst (l.take k)):standsL (l.take k) l[k].1≠⟨#[]⟩↔∃j,∃h:j<k,(l[j]'(by omega)).1=l[k].1:=by
  constructor
  · intro h
    have:=standsL_found h
    obtain⟨j,hj,e⟩:=List.mem_iff_getElem.1 this
    rw[List.length_take] at hj
    rw[List.getElem_take] at e
    exact⟨j,by omega,by rw[e]⟩
  · rintro⟨j,hj,e⟩ h0
    have hm:l[j]'(by omega)∈l.take k:=List.mem_iff_getElem.2 ⟨j,by rw[List.length_take];omega,by rw[List.getElem_take]⟩
    have h1:=standsL_mem hg.2 hm
    rw[e,h0] at h1
    have h2:=((okFl_iff _).1 (hg.1 _ hm)).2.1
    rw[<-h1] at h2
    exact absurd h2 (by decide)
def FromRes (e:Ending)(w w':World)(l:List Fl):Prop:=
  (e=.returned (.tuple #[.map (some w.heap.size),.bool true])/\Good okFl Prod.fst l/\∃D,w'.ownsMap prog 9 fileElem w.heap.size l.length D/\MapIs D (standsL l))\/
  (e=.returned (.tuple #[.map none,.bool false])/\¬Good okFl Prod.fst l)
theorem below_two {w wr:World}(hb:Below w.heap.size w wr)(o o':Obj):Below w.heap.size w ((wr.alloc o).alloc o'):=
  (hb.alloc hb.size o).alloc (by have:=hb.size;simp;omega) o'
theorem grown_of_below {w w':World}(hb:Below w.heap.size w w')(row:Option Nat):w.grownBy w' row:=⟨hb.os,hb.tape,hb.output,hb.size,λk hk _=>hb.block k hk⟩
theorem ownsMap_below {w w':World}{b n:Nat}{D:DataW Unit}(h:w.ownsMap prog 9 fileElem b n D)(hb:Below w.heap.size w w'):w'.ownsMap prog 9 fileElem b n D:=
  h.kept (grown_of_below hb none) (by simp)
theorem make58 (n:Int)(w:World):(Instr.makeMap 132 (some (.int .i64 n))).run prog w=.ok (.map (some w.heap.size)) (w.alloc (.map #[] 0)):=by
  simp[Instr.makeMap,run_underlying under58,asInt]
  rfl
theorem below_draw0 {wr w1 w2:World}(h:Below w1.heap.size w1 w2)(e:w1.heap=wr.heap)(e1:w1.os=wr.os)(e2:w1.tape=wr.tape)(e3:w1.output=wr.output):Below wr.heap.size wr w2:=
  ⟨h.os.trans e1,h.tape.trans e2,h.output.trans e3,by rw[<-e];exact h.size,λk hk=>by rw[<-e] at hk ⊢;exact h.block k hk⟩
theorem from_row (l:List Fl)(b off cap:Nat)(w:World)(hlt:b<w.heap.size)(hn:l.length<8796093022208)(h0:∀i (h:i<l.length),w.cell? ⟨b,off+i*2,none⟩=some (.string l[i].1))(h1:∀i (h:i<l.length),w.cell? ⟨b,off+i*2+1,none⟩=some (.string l[i].2))(hsz:∀f∈l,f.1.size<=maxLen):
    Calls prog 85 #[.slice (some ⟨b,off,none⟩) l.length cap] w λe w'=>FromRes e w w' l/\Below w.heap.size w w':=by
  have hmm:=make58
  go_enter func85,ntmps85
  go_wp2
  go_loopw [14] (λi wr=>∃(k:Nat) (D:DataW Unit),k<=l.length/\i=.int .i64 k/\wr.ownsMap prog 9 fileElem w.heap.size k D/\MapIs D (standsL (l.take k))/\Below w.heap.size w wr/\Hid (Good okFl Prod.fst (l.take k))) (λi _=>l.length-(intOf i).toNat)
  case atStart=>exact⟨0,_,Nat.zero_le _,rfl,World.ownsMap_made _ _ _ _,MapIs.made,(Below.refl _ _).alloc (Nat.le_refl _) _,Good.nil _ _⟩
  case round=>
    obtain⟨k,D,hk,rfl,hown,hM,hb,hs⟩:=hrel
    obtain⟨g0,g1,gb⟩:=files_cells hb hlt h0 h1
    clear h0 h1 hmm
    by_cases hlk:k<l.length
    · have hkm:l[k].1.size<=maxLen:=hsz _ (List.getElem_mem hlk)
      have hst:=stands_take_iff hlk hs.out
      have hown1:=hown.alloc (.cells #[.string l[k].1,.string l[k].2] 80)
      go_wp2_with (at_lookup;refine look_file_ok _ rfl _ _ rfl w.heap.size k D _ hM rfl hown1 l[k].1 hkm rfl ?_;intro p c r hr)
      · have hB:Hid (¬Good okFl Prod.fst l):=by
          obtain⟨j,hj,e⟩:=hst.1 (hr.out.1 ‹r=true›)
          exact good_twice hlk hj e
        go_ret2
        exact⟨.inr ⟨rfl,hB.out⟩,below_two hb _ _⟩
      · have hr0:¬standsL (l.take k) l[k].1≠⟨#[]⟩:=λh=>by
          have h1:=hr.out.2 h
          have h2:r=false:=by simpa using ‹¬r=true›
          rw[h2] at h1;cases h1
        have hf:∀j (h:j<k),(l[j]'(by omega)).1≠l[k].1:=λj hj e=>hr0 (hst.2 ⟨j,hj,e⟩)
        have hfr:∀x∈l.take k,x.1≠l[k].1:=λx hx e=>by
          obtain⟨j,hj,rfl⟩:=List.mem_iff_getElem.1 hx
          rw[List.length_take] at hj
          rw[List.getElem_take] at e
          exact hf j (by omega) e
        have Hst:Hid (standsL (l.take (k+1))=upd (standsL (l.take k)) l[k].1 l[k].2):=by
          rw[List.take_succ_eq_append_getElem hlk];exact standsL_snoc hfr
        have Hgd:Hid (okFl l[k]=true->Good okFl Prod.fst (l.take (k+1))):=λh=>(good_succ hlk).2 ⟨hs.out,h,hf⟩
        have Hbd:Hid (¬okFl l[k]=true->¬Good okFl Prod.fst l):=λh=>good_stop hlk h
        clear hst hr hr0 hf hfr
        refine(fileMayBe_any _ _ _).mono ?_
        rintro e w1 ⟨rfl,hb1⟩
        have hB1:Below w.heap.size w w1:=(below_two hb _ _).trans (hb1.mono (below_two hb _ _).size)
        have hown2:=ownsMap_below ((hown1.alloc (.cells #[.string p,.string c] 80))) hb1
        have c0:w1.cell? ⟨wr.heap.size,0,none⟩=some (.string l[k].1):=(hb1.cell (by simp;omega)).trans (by simp)
        have c1:w1.cell? ⟨wr.heap.size,1,none⟩=some (.string l[k].2):=(hb1.cell (by simp;omega)).trans (by simp)
        generalize hx:(okFill l[k].1&&okFill l[k].2)=x
        have Hx:Hid ((okFill l[k].1&&okFill l[k].2)=x):=hx
        have hwne:some wr.heap.size≠some w.heap.size:=λe=>by
          have h1:=hown.lt
          injection e with e;omega
        clear hx hb1 hown hown1
        cases x
        · go_wp2
          go_ret2
          exact⟨.inr ⟨rfl,Hbd.out (by rw[show okFl l[k]=(okFill l[k].1&&okFill l[k].2) from rfl,Hx.out];exact Bool.false_ne_true)⟩,hB1⟩
        · have hbl:Hid (l[k].2≠⟨#[]⟩):=λe=>by
            have:=((okFl_iff l[k]).1 Hx.out).2.1
            rw[e] at this;exact absurd this (by decide)
          have hk8:l[k].1.size<=281474976710656/\l[k].2.size<=281474976710656:=by
            have h1:=((okFl_iff l[k]).1 Hx.out).1.2
            have h2:=((okFl_iff l[k]).1 Hx.out).2.2
            constructor<;>omega
          obtain⟨s0,s1⟩:=hk8
          have hput:Hid (∀w3,Below w1.heap.size w1 w3->Calls prog 128 #[.map (some w.heap.size),.agg #[.string l[k].1,.string l[k].2]] w3 λe w'=>e=.returned (.tuple #[])/\(∃D',w'.ownsMap prog 9 fileElem w.heap.size (k+1) D'/\MapIs D' (standsL (l.take (k+1))))/\w3.grownBy w' (some w.heap.size)):=λw3 h3=>by
            rw[Hst.out]
            exact put_any w.heap.size k D _ l[k].1 l[k].2 w3 (ownsMap_below hown2 h3) hM hkm (by unfold maxLen;omega)
          have HB1:Hid (Below w.heap.size w w1):=hB1
          have Hg1:Hid (Good okFl Prod.fst (l.take (k+1))):=Hgd.out Hx.out
          clear hbl hown2 hM hkm Hst Hbd Hgd hb hs g0 g1 gb hB1 Hx hk
          generalize l[k].1=p at s0 c0 hput
          generalize l[k].2=o at s1 c1 hput
          go_wp2
          go_region_held_law (λw'=>w'.cell? ⟨wr.heap.size,0,none⟩=some (.string p)/\w'.cell? ⟨wr.heap.size,1,none⟩=some (.string o)) (go_keep) (first
            |(go_at_call 129;refine(clone_any p _ s0).mono ?_;rintro e w2 ⟨rfl,hb2⟩;have k0:w2.cell? ⟨wr.heap.size,0,none⟩=some (.string p):=cell_after hb2 c0;have k1:w2.cell? ⟨wr.heap.size,1,none⟩=some (.string o):=cell_after hb2 c1;have B2:Hid (Below w1.heap.size w1 w2):=below_draw0 hb2 rfl rfl rfl rfl)
            |(go_at_call 129;refine(clone_any o _ s1).mono ?_;rintro e w3 ⟨rfl,hb3⟩;have k2:=cell_after hb3 k0;have k3:=cell_after hb3 k1;have B3:Hid (Below w1.heap.size w1 w3):=B2.out.trans (hb3.mono B2.out.size))
            |(go_at_call 128;refine(hput.out _ B3.out).mono ?_;rintro e w4 ⟨rfl,⟨D4,hown4,hM4⟩,hg4⟩;have k4:w4.cell? ⟨wr.heap.size,0,none⟩=some (.string p):=hg4.cell k2 hwne;have k5:w4.cell? ⟨wr.heap.size,1,none⟩=some (.string o):=hg4.cell k3 hwne))
          have hB3:Below w.heap.size w w3:=HB1.out.trans (B3.out.mono HB1.out.size)
          have hB4:Below w.heap.size w w4:=hB3.grown hg4 hB3.size (λj hj=>by cases hj;exact Nat.le_refl _)
          clear k0 k1 k2 k3 k4 k5
          go_wp2
          exact⟨⟨k+1,D4,hlk,by go_num,hown4,hM4,hB4,Hg1.out⟩,by simp[intOf];omega⟩
    · go_wp2
      go_ret2
      have e:l.take k=l:=List.take_of_length_le (by omega)
      have hkl:k=l.length:=by omega
      subst hkl
      rw[e] at hM
      exact⟨.inl ⟨rfl,by have:=hs.out;rwa [e] at this,D,hown,hM⟩,hb⟩
theorem from_none (a:Option Addr)(cap:Nat)(w:World):
    Calls prog 85 #[.slice a 0 cap] w λe w'=>FromRes e w w' []/\Below w.heap.size w w':=by
  have hmm:=make58
  go_enter func85,ntmps85
  go_wp2
  go_loop [14] (λi=>i=.int .i64 0) (λ_=>0)
  case atStart=>rfl
  case round=>
    subst hrel
    clear hmm
    go_wp2
    go_ret2
    exact⟨.inl ⟨rfl,Good.nil _ _,_,World.ownsMap_made _ _ _ _,MapIs.made⟩,(Below.refl _ _).alloc (Nat.le_refl _) _⟩
theorem from_any (l:List Fl)(v:Value)(w:World)(hl:FilesAt w v l)(hn:l.length<8796093022208)(hsz:∀f∈l,f.1.size<=maxLen):
    Calls prog 85 #[v] w λe w'=>FromRes e w w' l/\Below w.heap.size w w':=by
  rcases hl with ⟨rfl,a,cap,rfl⟩|⟨b,off,cap,rfl,hlt,h0,h1⟩
  · exact from_none a cap w
  · exact from_row l b off cap w hlt hn h0 h1 hsz
end
section
open Go.Maps
theorem edits_grown {w wr:World}{b off bm:Nat}{l:List Ed}(hg:w.grownBy wr (some bm))(hne:b≠bm)(hlt:b<w.heap.size)(h0:∀i (h:i<l.length),w.cell? ⟨b,off+i*3,none⟩=some (.string l[i].1))(h1:∀i (h:i<l.length),w.cell? ⟨b,off+i*3+1,none⟩=some (.string l[i].2.1))(h2:∀i (h:i<l.length),w.cell? ⟨b,off+i*3+2,none⟩=some (.string l[i].2.2)):
    (∀i (h:i<l.length),wr.cell? ⟨b,off+i*3,none⟩=some (.string l[i].1))/\(∀i (h:i<l.length),wr.cell? ⟨b,off+i*3+1,none⟩=some (.string l[i].2.1))/\(∀i (h:i<l.length),wr.cell? ⟨b,off+i*3+2,none⟩=some (.string l[i].2.2))/\b<wr.heap.size:=by
  have e:=hg.block b hlt (by simp[hne])
  exact⟨λi h=>(World.cell?_of_block (w:=w) e).trans (h0 i h),λi h=>(World.cell?_of_block (w:=w) e).trans (h1 i h),λi h=>(World.cell?_of_block (w:=w) e).trans (h2 i h),Nat.lt_of_lt_of_le hlt hg.size⟩
def SetRes (e:Ending)(w':World)(b n:Nat)(g:ByteArray->ByteArray)(l:List Ed):Prop:=
  (e=.returned (.bool true)/\(∀x∈l,g x.1=x.2.1)/\∃D,w'.ownsMap prog 9 fileElem b (n+l.length) D/\MapIs D (edited g l))\/
  (e=.returned (.bool false)/\¬∀x∈l,g x.1=x.2.1)
theorem field47 (p b:ByteArray)(w:World):(Instr.field 80 (.agg #[.string p,.string b]) 1).run prog w=.ok (.string b) w:=by kernel_rfl
theorem setApply_row (l:List Ed)(b off cap bm n:Nat)(D:DataW Unit)(g:ByteArray->ByteArray)(w:World)(hlt:b<w.heap.size)(hne:b≠bm)(h0:∀i (h:i<l.length),w.cell? ⟨b,off+i*3,none⟩=some (.string l[i].1))(h1:∀i (h:i<l.length),w.cell? ⟨b,off+i*3+1,none⟩=some (.string l[i].2.1))(h2:∀i (h:i<l.length),w.cell? ⟨b,off+i*3+2,none⟩=some (.string l[i].2.2))(hn4:l.length<=4)(hown:w.ownsMap prog 9 fileElem bm n D)(hM:MapIs D g)(hn:n<8796093022208)(hsz:∀x∈l,x.1.size<=maxLen):
    Calls prog 243 #[.map (some bm),.slice (some ⟨b,off,none⟩) l.length cap] w λe w'=>SetRes e w' bm n g l/\w.grownBy w' (some bm):=by
  have hfd:=field47
  go_enter func243,ntmps243
  go_wp2
  go_loopw [11] (λi wr=>∃k:Nat,k<=l.length/\i=.int .i64 k/\Below w.heap.size w wr/\Hid (∀j (h:j<k) (h':j<l.length),g l[j].1=l[j].2.1)) (λi _=>l.length-(intOf i).toNat)
  case atStart=>exact⟨0,Nat.zero_le _,rfl,Below.refl _ _,λj h=>by omega⟩
  case round=>
    obtain⟨k,hk,rfl,hb,hs⟩:=hrel
    by_cases hlk:k<l.length
    · obtain⟨g0,g1,g2,gb⟩:=edits_cells hb hlt h0 h1 h2
      have hown1:=(ownsMap_below hown hb).alloc (.cells #[.string l[k].1,.string l[k].2.1,.string l[k].2.2] 49)
      have hkm:l[k].1.size<=maxLen:=hsz _ (List.getElem_mem hlk)
      clear h0 h1 h2 hown
      go_wp2_with (at_lookup;refine look_file _ rfl _ _ rfl bm n D _ hM rfl hown1 l[k].1 hkm rfl ?_;intro p)
      · have hne':Hid (¬∀x∈l,g x.1=x.2.1):=λh=>by
          have e:=h _ (List.getElem_mem hlk)
          have e':(!((g l[k].1).toList==l[k].2.1.toList))=true:=by assumption
          rw[e] at e';simp at e'
        go_ret
        exact⟨.inr ⟨rfl,hne'.out⟩,(grown_of_below hb _).trans (World.grownBy_alloc _ _ _)⟩
      · have hq:Hid (g l[k].1=l[k].2.1):=(beq_true_iff _ _).1 (by simpa using ‹(!((g l[k].1).toList==l[k].2.1.toList))=false›)
        go_roundw
        case rel=>exact⟨k+1,hlk,by go_num,hb.alloc hb.size _,λx hx hx'=>by
                  by_cases e:x=k
                  · subst e;exact hq.out
                  · exact hs.out x (by omega) hx'⟩
        case measure=>simp[intOf];omega
    · have hall:Hid (∀x∈l,g x.1=x.2.1):=λx hx=>by
        obtain⟨j,hj,rfl⟩:=List.mem_iff_getElem.1 hx
        exact hs.out j (by omega) hj
      have hgw:=grown_of_below hb (some bm)
      have hown1:=ownsMap_below hown hb
      clear hown hs
      go_wp2
      go_loopw [26] (λi wr=>∃(k:Nat) (D:DataW Unit),k<=l.length/\i=.int .i64 k/\wr.ownsMap prog 9 fileElem bm (n+k) D/\MapIs D (edited g (l.take k))/\w.grownBy wr (some bm)) (λi _=>l.length-(intOf i).toNat)
      case atStart=>exact⟨0,D,Nat.zero_le _,rfl,hown1,hM,hgw⟩
      case round=>
        clear hM hown1 hgw hb hk D
        obtain⟨k,D,hk,rfl,hown,hM,hgw⟩:=hrel
        obtain⟨g0,g1,g2,gb⟩:=edits_grown hgw hne hlt h0 h1 h2
        by_cases hlk:k<l.length
        · have hkm:l[k].1.size<=maxLen:=hsz _ (List.getElem_mem hlk)
          have hown1:=hown.alloc (.cells #[.string l[k].1,.string l[k].2.1,.string l[k].2.2] 49)
          have hc:=put_any bm (n+k) D _ l[k].1 l[k].2.2 _ hown1 hM hkm (by unfold maxLen;omega)
          have He:Hid (edited g (l.take (k+1))=upd (edited g (l.take k)) l[k].1 l[k].2.2):=by
            rw[List.take_succ_eq_append_getElem hlk];exact edited_snoc _ _ _
          clear h0 h1 h2 hown hM hown1
          go_wp2_with (go_at_call 128;refine hc.mono ?_;rintro e w1 ⟨rfl,⟨D1,hown1,hM1⟩,hg1⟩)
          go_roundw
          case rel=>exact⟨k+1,D1,hlk,by go_num,hown1,by rw[He.out];exact hM1,(hgw.trans (World.grownBy_alloc _ _ _)).trans hg1⟩
          case measure=>simp[intOf];omega
        · go_wp2
          go_ret
          have hkl:k=l.length:=by omega
          subst hkl
          rw[List.take_length] at hM
          exact⟨.inl ⟨rfl,hall.out,D,hown,hM⟩,hgw⟩
theorem cells_ne_map {w:World}{b off bm n:Nat}{D:DataW Unit}{v:Value}(h:w.cell? ⟨b,off,none⟩=some v)(hown:w.ownsMap prog 9 fileElem bm n D):b≠bm:=by
  rintro rfl
  obtain⟨es,clock,hb,_⟩:=hown
  simp[World.cell?,hb] at h
theorem setApply_any (l:List Ed)(v:Value)(bm n:Nat)(D:DataW Unit)(g:ByteArray->ByteArray)(w:World)(hl:EditsAt w v l)(hn1:1<=l.length)(hn4:l.length<=4)(hown:w.ownsMap prog 9 fileElem bm n D)(hM:MapIs D g)(hn:n<8796093022208)(hsz:∀x∈l,x.1.size<=maxLen):
    Calls prog 243 #[.map (some bm),v] w λe w'=>SetRes e w' bm n g l/\w.grownBy w' (some bm):=by
  rcases hl with ⟨rfl,_⟩|⟨b,off,cap,rfl,hlt,h0,h1,h2⟩
  · simp at hn1
  · exact setApply_row l b off cap bm n D g w hlt (cells_ne_map (h0 0 (by omega)) hown) h0 h1 h2 hn4 hown hM hn hsz
end
section
open Go.Maps
theorem info47:(prog.info? 80).map (λi=>(i.zero,i.size,i.bytes))=some (some (.agg #[.string ⟨#[]⟩,.string ⟨#[]⟩]),2,32):=by kernel_rfl
def Coll (g:ByteArray->ByteArray)(left:Lit->Bool)(ss:List Fl):Prop:=
  Apart Prod.fst ss/\∀f,f∈ss↔g f.1=f.2/\f.2≠⟨#[]⟩/\left (kl f.1)=false
theorem Coll.start {D:DataW Unit}{g:ByteArray->ByteArray}(h:MapIs D g):Coll g (Maps.has D) []:=by
  refine⟨List.Pairwise.nil,λf=>⟨λx=>by simp at x,?_⟩⟩
  rintro⟨h1,h2,h3⟩
  rw[<-h1] at h2
  rw[((h f.1).2 h2).1] at h3
  cases h3
theorem keyOf_inv9 {key:Value}{k:Lit}(h:keyOf prog 9 key=some k):∃s,key=.string s/\k=kl s:=by
  cases key<;>simp[keyOf,underlying9,mapKey] at h
  rename_i s
  exact⟨s,rfl,h.2.symm⟩
theorem sameKey_kl (s t:ByteArray):(kl s).sameKey (kl t)=true↔s=t:=by
  constructor
  · intro h;exact kl_inj (WideAt.sameKey_eq h)
  · rintro rfl;simp[Lit.sameKey]
theorem Coll.step {D:DataW Unit}{g:ByteArray->ByteArray}{left:Lit->Bool}{ss:List Fl}(hM:MapIs D g)(h:Coll g left ss){s:ByteArray}(hl:left (kl s)=true){f:Fl}(hat:∀zd,D.atKey (kl s) zd=fd f.1 f.2):
    Coll g (λz=>left z&& !z.sameKey (kl s)) (ss++[f])/\f.1=s/\f.2=g s:=by
  have hh:=has_true_of_atKey hat
  have hg:g s≠⟨#[]⟩:=λe=>by rw[(hM s).1 e] at hh;cases hh
  have e:=((hM s).2 hg).2 (.map [])
  rw[hat] at e
  obtain⟨e1,e2⟩:=fd_inj e
  refine⟨⟨?_,λx=>?_⟩,e1,e2⟩
  · refine List.pairwise_append.2 ⟨h.1,List.pairwise_singleton _ _,λa ha b hb e=>?_⟩
    rw[List.mem_singleton.1 hb,e1] at e
    have:=((h.2 a).1 ha).2.2
    rw[e,hl] at this
    cases this
  · rw[List.mem_append,List.mem_singleton,h.2]
    show _↔g x.1=x.2/\x.2≠⟨#[]⟩/\(left (kl x.1)&& !(kl x.1).sameKey (kl s))=false
    by_cases ex:x.1=s
    · have:(left (kl x.1)&& !(kl x.1).sameKey (kl s))=false:=by rw[(sameKey_kl _ _).2 ex];simp
      rw[this]
      constructor
      · rintro (⟨a,b,_⟩|rfl)
        · exact⟨a,b,rfl⟩
        · exact⟨by rw[e1,e2],by rw[e2];exact hg,rfl⟩
      · rintro⟨a,_,_⟩
        exact .inr (Prod.ext (ex.trans e1.symm) (by rw[<-a,ex,e2]))
    · have:(kl x.1).sameKey (kl s)=false:=by
        rw[<-Bool.not_eq_true,sameKey_kl];exact ex
      rw[this]
      simp only[Bool.not_false,Bool.and_true]
      constructor
      · rintro (a|rfl)
        · exact a
        · exact absurd e1 ex
      · exact .inl
theorem Coll.told {g:ByteArray->ByteArray}{left:Lit->Bool}{ss l':List Fl}(h:Coll g left ss)(hl:∀k,left k=false)(hp:l'.Perm ss)(hs:l'.Pairwise λa b=>¬b.1.data.toList<a.1.data.toList):Told l' g:=by
  have ha:Apart Prod.fst l':=hp.symm.pairwise h.1 (fun {x y} hxy=>hxy.symm)
  refine told_of_mem ?_ λf=>?_
  · have:=hs.and ha
    refine this.imp fun {a b} ⟨h1,h2⟩=>?_
    rcases Classical.em (a.1.data.toList<b.1.data.toList) with h|h
    · exact h
    · exact absurd (eq_of_data (List.le_antisymm (List.not_lt.1 h1) (List.not_lt.1 h))) h2
  · rw[hp.mem_iff,h.2,hl]
    simp
theorem cell_two_box (w:World)(o:Obj)(a b:Value)(t:TypeId):∀j u,[a,b][j]? =some u->((w.alloc o).alloc (.cells #[a,b] t)).cell? ((⟨w.heap.size+1,0,none⟩:Addr).add j)=some u:=by
  have:=cell_two_new (w.alloc o) a b t
  simpa using this
def LRes (e:Ending)(w w':World)(g:ByteArray->ByteArray)(n:Nat):Prop:=
  ∃(l:List Fl) (b cap:Nat),e=.returned (.slice (some ⟨b,0,none⟩) l.length cap)/\Told l g/\l.length<=n/\w'.ownsRow w.heap.size 80 2 (.slice (some ⟨b,0,none⟩) l.length cap) l.length (l.flatMap cF)
theorem list_any (b n:Nat)(D:DataW Unit)(g:ByteArray->ByteArray)(w:World)(hown:w.ownsMap prog 9 fileElem b n D)(hM:MapIs D g)(hn:n*32<=140737488355328):
    Calls prog 144 #[.map (some b)] w λe w'=>LRes e w w' g n/\Below w.heap.size w w':=by
  obtain⟨i0,hi,hz0,hz1,hz2⟩:=info_parts info47
  have hbl:=hown.lt
  have hsl:=hown.size_le
  go_enter func144,ntmps144
  go_wp2_with (first
    |(at_len;refine wpList_len_own _ rfl _ _ rfl _ _ under58 _ b n _ rfl hown ?_)
    |(at_make;refine wpList_make_own _ rfl _ _ _ rfl w.heap.size _ i0 _ 2 underlying24 hi hz0 hz1 _ _ _ (Maps.size D) rfl rfl rfl (by rw[hz2];omega) (by unfold maxLen;omega) (Nat.le_refl _) ?_;intro w1 hrow1 hg1)
    |(at_range;refine wpList_range_own _ rfl _ _ rfl _ _ law9 under58 _ b n _ rfl (hown.kept hg1 (by simp)) ?_;intro w0 hrg0 hg0 hs0))
  go_frame
  go_loopw [3] (λv wr=>∃(left:Lit->Bool) (cnt:Nat) (ss:List Fl),wr.ranges prog 9 fileElem b w1.heap.size n D left cnt/\ss.length+cnt<=Maps.size D/\
      wr.ownsRow w.heap.size 80 2 v ss.length (ss.flatMap cF)/\v≠.slice none 0 0/\Coll g left ss/\Below w.heap.size w wr)
    (λ_ wr=>wr.rangeLeft b w1.heap.size)
  case atStart=>
    exact⟨_,_,[],hrg0,by simp,hrow1.kept hg0 (Or.inr (by simp[Value.ownBlock])),by simp,Coll.start hM,
      ((Below.refl _ _).grown hg1 (Nat.le_refl _) (λj hj=>by cases hj)).grown hg0 hg1.size (λj hj=>by cases hj)⟩
  case round=>
    obtain⟨left,cnt,ss,hrg,hcs,hrow,hnn,hC,hnx⟩:=hrel
    go_wp2_with (at_next;refine wpList_next_ranges _ rfl _ rfl _ law9 fileElem Value.string (λf:Fl=>.agg #[.string f.1,.string f.2]) (λkey kl hk=>by obtain⟨x,hx,_⟩:=keyOf_inv9 hk;exact⟨x,hx⟩) (λv y hv=>by obtain⟨p,c,hx,_⟩:=fileElem_inv hv;exact⟨(p,c),hx⟩) b w1.heap.size n _ _ _ rfl hrg ?_ ?_)
    · intro hc0 hl0
      rcases hrow.2 with ⟨hnil,_⟩|⟨g',cap,cur,rfl,hbase,hb,h1,h2,h3,h4⟩
      · exact absurd hnil hnn
      have hc:=sort_any ss g' cap w.heap.size wr hrow (by omega)
      clear hrow hnn h4
      go_wp2_with (go_at_call 185;refine hc.mono ?_;rintro e w' ⟨rfl,⟨l',hp,hs,hrow'⟩,hg'⟩)
      go_ret
      have hle:=hp.length_eq
      exact⟨⟨l',g',cap,by rw[hle];rfl,hC.told hl0 hp hs,by omega,hrow'⟩,hnx.grown hg' hnx.size (λj hj=>by cases hj;exact hbase)⟩
    · intro x p c k yd yp w2 cnt2 hkey hlk hv hat hrg2 hlt hg2 hs2 hen
      obtain⟨s,hx,rfl⟩:=keyOf_inv9 hkey
      cases hx
      have hy:fd p c=yd:=congrArg Prod.fst (Option.some.inj ((fileElem_mk p c).symm.trans hv))
      subst hy
      obtain⟨hC2,_⟩:=hC.step hM hlk (f:=(p,c)) hat
      have hrow2:=hrow.kept hg2 (Or.inr (row_ne_iter hrow hrg).symm)
      have hz2':=hg2.size
      have hz1':=hnx.size
      clear hs2 hv hkey hC hat
      go_wp2_with (at_builtin;refine wpList_append_own _ rfl _ _ _ rfl w.heap.size _ i0 _ 2 32 underlying24 hi hz0 hz1 hz2 rfl (by decide) _ _ _ rfl ((hrow2.alloc _).alloc _) ⟨w2.heap.size+1,0,none⟩ 1 1 [.string p,.string c] rfl rfl (cell_two_box _ _ _ _ _) (by simp[Value.oneCell']) (by unfold maxLen;omega) (by omega) (by simp;omega) ?_;intro v' w3 hown' hg3 hnil3;go_frame)
      have hrg3:=((hrg2.alloc (.cells #[.string p,.string c] 80)).alloc (.cells #[.string p,.string c] 80)).kept hg3 (row_ne_low hrow2 hbl) (row_ne_iter hrow2 hrg2)
      refine⟨⟨_,cnt2,ss++[(p,c)],hrg3,by simp;omega,by simpa[cF] using hown',λhv'=>by have:=(hnil3.1 hv').2;omega,hC2,?_⟩,by rw[hrg3.left_eq,hrg.left_eq];exact hlt⟩
      have b1:Below w.heap.size w w2:=hnx.grown hg2 hnx.size (λj hj=>by cases hj;exact hg1.size)
      exact((b1.alloc b1.size _).alloc (by simp;omega) _).grown hg3 (by simp;omega) (λj hj=>(hrow2.lt j hj).1)
end
theorem Drew.trans {a b c:World}(h:Drew a b)(h':Drew b c):Drew a c:=by
  obtain⟨n,rfl⟩:=h
  obtain⟨m,rfl⟩:=h'
  exact .two _ _ _
theorem drew_row {w w':World}(h:Drew w w'){base:Nat}{e:TypeId}{size:Nat}{v:Value}{n:Nat}{xs:List Value}(hr:w.ownsRow base e size v n xs):w'.ownsRow base e size v n xs:=by
  obtain⟨n,rfl⟩:=h;exact hr
theorem drew_below {a w w':World}{B:Nat}(h:Drew w w')(hb:Below B a w):Below B a w':=by
  obtain⟨n,rfl⟩:=h;exact hb.trans ⟨rfl,rfl,rfl,Nat.le_refl _,λ_ _=>rfl⟩
theorem row_snoc {w:World}{base:Nat}{e:TypeId}{v:Value}{n:Nat}{ss:List Fl}{f:Fl}(hn:n=ss.length)(h:w.ownsRow base e 2 v (n+1) (ss.flatMap cF++[.string f.1,.string f.2])):w.ownsRow base e 2 v (ss++[f]).length ((ss++[f]).flatMap cF):=by
  subst hn
  have e1:(ss++[f]).length=ss.length+1:=by simp
  have e2:(ss++[f]).flatMap cF=ss.flatMap cF++[.string f.1,.string f.2]:=by simp[cF]
  rw[e1,e2];exact h
theorem room_base {w wr:World}(h:w.heap.size<=wr.heap.size)(o:Obj):w.heap.size<=(wr.alloc o).heap.size:=by simp;omega
def but (p:ByteArray)(l:List Fl):List Fl:=l.filter λf=> !(f.1.toList==p.toList)
def withOne (l:List Fl)(e:Ed):List Fl:=but e.1 l++if e.2.2.toList.isEmpty then [] else [(e.1,e.2.2)]
def withL (l:List Fl)(es:List Ed):List Fl:=es.foldl withOne l
theorem withL_snoc (l:List Fl)(es:List Ed)(e:Ed):withL l (es++[e])=withOne (withL l es) e:=by simp[withL,List.foldl_append]
theorem but_len (p:ByteArray)(l:List Fl):(but p l).length<=l.length:=List.length_filter_le _ _
theorem withOne_len (l:List Fl)(e:Ed):(withOne l e).length<=l.length+1:=by
  unfold withOne
  have:=but_len e.1 l
  rw[List.length_append]
  split<;>simp<;>omega
theorem withL_len (l:List Fl)(es:List Ed):(withL l es).length<=l.length+es.length:=by
  induction es generalizing l with
  |nil=>simp[withL]
  |cons e es ih=>
    have h1:=ih (withOne l e)
    have h2:=withOne_len l e
    show (withL (withOne l e) es).length<=_
    simp only[List.length_cons];omega
theorem but_hit (p:ByteArray){l:List Fl}{j:Nat}(hj:j<l.length)(h:(!(l[j].1.toList==p.toList))=true):but p (l.take (j+1))=but p (l.take j)++[l[j]]:=by
  unfold but
  rw[List.take_succ_eq_append_getElem hj,List.filter_append,List.filter_cons,if_pos h,List.filter_nil]
theorem but_miss (p:ByteArray){l:List Fl}{j:Nat}(hj:j<l.length)(h:(!(l[j].1.toList==p.toList))=false):but p (l.take (j+1))=but p (l.take j):=by
  unfold but
  rw[List.take_succ_eq_append_getElem hj,List.filter_append,List.filter_cons,if_neg (by rw[h];exact Bool.false_ne_true),List.filter_nil,List.append_nil]
theorem step_append_own {P:Program}{ops:Array Oper}{o:Oper}{a:Act}{w:World}{K:Act->World->Prop}{Q:Exit->Act->World->Prop}{E:Prop}(hg:o.guard=none)(s x:Operand)(t:TypeId)(ho:o.op=Op.call {callee:=Callee.builtin Builtin.append,args:=#[s,x],argTypes:=#[t,t]})(base:Nat)(e:TypeId)(i:TypeInfo)(z:Value)(size bytes:Nat)(ht:P.underlying t=some (.slice e))(hi:P.info? e=some i)(hz:i.zero=some z)(hsize:i.size=size)(hby:i.bytes=bytes)(hzs:z.cells.size=size)(hsz:0<size)(v:Value)(n:Nat)(xs:List Value)(hs:a.eval s=v)(hown:w.ownsRow base e size v n xs)(ad:Addr)(m c:Nat)(news:List Value)(hx:a.eval x=.slice (some ad) m c)(hl:news.length=m*size)(hnews:∀j u,news[j]? =some u->w.cell? (ad.add j)=some u)(h1:∀u∈news,u.oneCell'=true)(h63:n+m<=maxLen)(hbytes:(n+m)*bytes<=140737488355328)(hbase:base<=w.heap.size)(hK:∀v' w',w'.ownsRow base e size v' (n+m) (xs++news)->w.grownBy w' v.ownBlock->K (a.put o.dst v') w'):
    if Region.wanted o (yielded ops a.tmps)=true then Oper.wp P o a w K Q else E:=by
  have hw:Region.wanted o (yielded ops a.tmps)=true:=by simp[Region.wanted,hg]
  rw[if_pos hw]
  exact wp_append_own w s x t ho base e i z size bytes ht hi hz hsize hby hzs hsz v n xs hs hown ad m c news hx hl hnews h1 h63 hbytes hbase λv' w' h2 h3 _=>hK v' w' h2 h3
theorem below_app {wo wr w3:World}{nq n size:Nat}{e:TypeId}{o:Obj}{v:Value}{xs:List Value}(hb:Below wo.heap.size wo wr)(hrow:wr.ownsRow wo.heap.size e size v n xs)(hg:((wr.alloc o).drewN nq).grownBy w3 v.ownBlock):Below wo.heap.size wo w3:=
  (drew_below (.one _ nq) (hb.alloc hb.size o)).grown hg (by show wo.heap.size<=(wr.alloc o).heap.size;have:=hb.size;simp;omega) (λj hj=>(hrow.lt j hj).1)
theorem cells_app {wo wr w3:World}{n size b o1 o2:Nat}{e:TypeId}{o:Obj}{v u1 u2:Value}{xs:List Value}(hlt:b<wo.heap.size)(hrow:wr.ownsRow wo.heap.size e size v n xs)(hg:(wr.alloc o).drew.grownBy w3 v.ownBlock)(h1:wr.cell? ⟨b,o1,none⟩=some u1)(h2:wr.cell? ⟨b,o2,none⟩=some u2):w3.cell? ⟨b,o1,none⟩=some u1/\w3.cell? ⟨b,o2,none⟩=some u2:=by
  have hne:some b≠v.ownBlock:=λh=>by have:=(hrow.lt b h.symm).1;omega
  have g:=World.grownBy_alloc wr o none
  have k1:(wr.alloc o).drew.cell? ⟨b,o1,none⟩=some u1:=g.cell h1 (by simp)
  have k2:(wr.alloc o).drew.cell? ⟨b,o2,none⟩=some u2:=g.cell h2 (by simp)
  exact⟨hg.cell k1 hne,hg.cell k2 hne⟩
theorem but_apart {l:List Fl}(h:Apart Prod.fst l)(p:ByteArray):Apart Prod.fst (but p l):=List.Pairwise.sublist List.filter_sublist h
theorem mem_but {l:List Fl}{p:ByteArray}{f:Fl}:f∈but p l↔f∈l/\f.1≠p:=by
  unfold but
  rw[List.mem_filter,Bool.not_eq_true',beq_false_iff]
def Full (l:List Fl):Prop:=∀f∈l,f.2≠⟨#[]⟩
theorem withOne_inv {l:List Fl}(ha:Apart Prod.fst l)(hn:Full l)(e:Ed):Apart Prod.fst (withOne l e)/\Full (withOne l e)/\∀q,standsL (withOne l e) q=upd (standsL l) e.1 e.2.2 q:=by
  have hmem:∀f,f∈withOne l e↔(f∈l/\f.1≠e.1)\/(f=(e.1,e.2.2)/\e.2.2≠⟨#[]⟩):=λf=>by
    unfold withOne
    rw[List.mem_append,mem_but]
    cases h:e.2.2.toList.isEmpty
    · have:e.2.2≠⟨#[]⟩:=λx=>by rw[(empty_iff _).2 x] at h;cases h
      simp[this]
    · have:=(empty_iff _).1 h
      simp[this]
  have hap:Apart Prod.fst (withOne l e):=by
    unfold withOne
    refine List.pairwise_append.2 ⟨but_apart ha _,by split<;>simp,λx hx y hy=>?_⟩
    have h1:=(mem_but.1 hx).2
    split at hy
    · simp at hy
    · rw[List.mem_singleton.1 hy];exact h1
  have hfu:Full (withOne l e):=λf hf=>by
    rcases (hmem f).1 hf with ⟨h,_⟩|⟨rfl,h⟩
    · exact hn f h
    · exact h
  refine⟨hap,hfu,λq=>?_⟩
  by_cases hq:e.1=q
  · subst hq
    rw[upd_same]
    by_cases he:e.2.2=⟨#[]⟩
    · rw[he]
      refine standsL_none λf hf ef=>?_
      rcases (hmem f).1 hf with ⟨_,h⟩|⟨_,h⟩
      · exact h ef
      · exact h he
    · exact standsL_mem hap ((hmem _).2 (.inr ⟨rfl,he⟩))
  · rw[upd_other _ _ hq]
    by_cases hs:standsL l q=⟨#[]⟩
    · rw[hs]
      refine standsL_none λf hf ef=>?_
      rcases (hmem f).1 hf with ⟨h,_⟩|⟨h,_⟩
      · have:=standsL_mem ha h
        rw[ef,hs] at this
        exact hn f h this.symm
      · rw[h] at ef;exact hq ef
    · exact standsL_mem hap ((hmem (q,standsL l q)).2 (.inl ⟨standsL_found hs,λx=>hq x.symm⟩))
theorem withL_inv {l:List Fl}(ha:Apart Prod.fst l)(hn:Full l)(es:List Ed):Apart Prod.fst (withL l es)/\Full (withL l es)/\∀q,standsL (withL l es) q=edited (standsL l) es q:=by
  induction es generalizing l with
  |nil=>exact⟨ha,hn,λ_=>rfl⟩
  |cons e es ih=>
    obtain⟨h1,h2,h3⟩:=withOne_inv ha hn e
    obtain⟨k1,k2,k3⟩:=ih h1 h2
    refine⟨k1,k2,λq=>?_⟩
    show standsL (withL (withOne l e) es) q=edited (upd (standsL l) e.1 e.2.2) es q
    rw[k3,show standsL (withOne l e)=upd (standsL l) e.1 e.2.2 from funext h3]
def touch (es:List Ed)(p:ByteArray):Bool:=es.any λe=>e.1.toList==p.toList
def keep (es:List Ed)(l:List Fl):List Fl:=l.filter λf=> !touch es f.1
def newOne (e:Ed):List Fl:=if e.2.2.toList.isEmpty then [] else [(e.1,e.2.2)]
def news (es:List Ed):List Fl:=es.flatMap newOne
end Go.Proofs.YtgamgomepdfgdaaGreat
