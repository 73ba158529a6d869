import Derived.StillTailTactics
import Derived.Test.YtgamgomepdfgdaaGreatEM38
set_option maxRecDepth 100000
set_option maxHeartbeats 8000000
namespace Go.Proofs.YtgamgomepdfgdaaGreat
open Go.RowKit Go.Proofs.Tryz
def edZ (i:Nat)(q:Bool)(j:Nat):Ed:=
  (if i=0 then (if q then ⟨#[97,50]⟩ else ⟨#[97]⟩) else (if q then ⟨#[98,50]⟩ else ⟨#[98]⟩),if j=0 then ⟨#[]⟩ else if j=1\/j=2 then ⟨#[120]⟩ else ⟨#[121]⟩,if j=0 then ⟨#[120]⟩ else if j=1 then ⟨#[121]⟩ else if j=3 then ⟨#[120]⟩ else ⟨#[]⟩)
theorem edZ_ok:∀i q j,i<2->j<5->okEd (edZ i q j)=true:=by
  intro i q j hi hj
  have h1:i=0\/i=1:=by omega
  have h2:j=0\/j=1\/j=2\/j=3\/j=4:=by omega
  rcases h1 with rfl|rfl<;>cases q<;>rcases h2 with rfl|rfl|rfl|rfl|rfl<;>(simp only[okEd,okEdit,okFill,okText,Lib.toList_data];decide)
theorem edZ_apart (q q':Bool)(j j':Nat):(edZ 0 q j).1≠(edZ 1 q' j').1:=by
  intro h
  have h2:=congrArg (λb:ByteArray=>b.data.toList) h
  revert h2
  cases q<;>cases q'<;>simp[edZ]
def EdsOf:Nat->List Ed->Prop
  |0,es=>es=[]
  |1,es=>∃q j,j<5/\es=[edZ 0 q j]
  |_,es=>∃q j q' j',j<5/\j'<5/\es=[edZ 0 q j,edZ 1 q' j']
def cB:Ed:=(⟨#[99]⟩,⟨#[]⟩,⟨#[120]⟩)
theorem EdsOf.ok {k:Nat}{es:List Ed}(h:EdsOf k es)(hk:k≠0):EditsOK es:=by
  match k,h with
  |0,_=>exact absurd rfl hk
  |1,⟨q,j,hj,e⟩=>
    subst e
    exact⟨by simp,by simp,λx hx=>by rw[List.mem_singleton.1 hx];exact edZ_ok 0 q j (by omega) hj,by unfold Apart;simp⟩
  |k+2,⟨q,j,q',j',hj,hj',e⟩=>
    subst e
    refine⟨by simp,by simp,λx hx=>?_,?_⟩
    · rcases List.mem_cons.1 hx with rfl|hx
      · exact edZ_ok 0 q j (by omega) hj
      · rw[List.mem_singleton.1 hx];exact edZ_ok 1 q' j' (by omega) hj'
    · unfold Apart
      simpa using edZ_apart q q' j j'
theorem cB_ok:EditsOK [cB]:=⟨by simp,by simp,λx hx=>by rw[List.mem_singleton.1 hx];simp only[okEd,okEdit,okFill,okText,Lib.toList_data];decide,by unfold Apart;simp⟩
theorem EdsOf.len {k:Nat}{es:List Ed}(h:EdsOf k es)(hk:k<=2):es.length=k:=by
  match k,h with
  |0,h=>rw[h];rfl
  |1,⟨q,j,hj,e⟩=>rw[e];rfl
  |2,⟨q,j,q',j',hj,hj',e⟩=>rw[e];rfl
theorem EdsOf.next {k:Nat}{es:List Ed}(h:EdsOf k es)(hk:k<2)(q:Bool)(j:Nat)(hj:j<5):EdsOf (k+1) (es++[edZ k q j]):=by
  match k,h with
  |0,h=>rw[h];exact⟨q,j,hj,rfl⟩
  |1,⟨q0,j0,hj0,e⟩=>rw[e];exact⟨q0,j0,q,j,hj0,hj,rfl⟩
def Kp (p:Pe):Prop:=0<p.known.length/\∀i∈p.known.map Kn.id,i<=1000\/i=1000000
def Acts (w w':World)(e:Ending)(U:Nat->Prop)(pb xb:Nat)(c:Cfg)(σ:Sg):Prop:=
  e=.returned (.bool true)/\∃σ' p' U',Pp w' U' pb xb c σ' p'/\Grows w w' U U'/\(Gd c σ' p'/\Kp p')/\bud c σ'<=bud c σ+2
theorem known_pos {p p':Pe}(h:p'.known.map (λk=>(k.id,k.es))=p.known.map λk=>(k.id,k.es))(hp:Kp p):Kp p':=by
  have e:p'.known.map Kn.id=p.known.map Kn.id:=by
    have:=congrArg (List.map Prod.fst) h
    rw[List.map_map,List.map_map] at this
    exact this
  have hl:=congrArg List.length e
  simp only[List.length_map] at hl
  exact⟨by rw[hl];exact hp.1,by rw[e];exact hp.2⟩
theorem Acts.of_below {w w1 w':World}{e:Ending}{U:Nat->Prop}{pb xb:Nat}{c:Cfg}{σ:Sg}(hb:Below w.heap.size w w1)(h:Acts w1 w' e U pb xb c σ):Acts w w' e U pb xb c σ:=by
  obtain⟨he,σ',p',U',h1,h2,h3⟩:=h
  exact⟨he,σ',p',U',h1,Grows.from_below hb h2,h3⟩
theorem acts_pump {U:Nat->Prop}{pb xb:Nat}{c:Cfg}{σ:Sg}{p:Pe}{w:World}(h:Pp w U pb xb c σ p)(hG:Gd c σ p)(hc:c.Ok)(hn:bud c σ+2<1048576)(hk:Kp p):Calls prog 19 #[.pointer (some ⟨pb,0,none⟩)] w λe w'=>Acts w w' e U pb xb c σ:=by
  refine(pl_pump U pb xb c σ p w h hG hc (by omega)).mono ?_
  rintro e w' ⟨he,σ',p',U',h1,h2,h3,h4⟩
  exact⟨he,σ',p',U',h1,h2,⟨h3,known_pos h4.kn hk⟩,by have:=h4.bud;omega⟩
theorem acts_cancel {U:Nat->Prop}{pb xb:Nat}{c:Cfg}{σ:Sg}{p:Pe}{w:World}(kk:Int)(h:Pp w U pb xb c σ p)(hG:Gd c σ p)(hc:c.Ok)(hn:bud c σ+2<1048576)(hk:Kp p)(hkk:-9223372036854775808<=kk/\kk<9223372036854775808):Calls prog 61 #[.pointer (some ⟨pb,0,none⟩),.int .i64 kk] w λe w'=>Acts w w' e U pb xb c σ:=by
  refine(pl_cancel U pb xb c σ p kk w h hG hc (by omega) hkk hk.1).mono ?_
  rintro e w' ⟨he,σ',p',U',h1,h2,h3,h4⟩
  exact⟨he,σ',p',U',h1,h2,⟨h3,known_pos h4.kn hk⟩,by have:=h4.bud;omega⟩
theorem acts_ends {U:Nat->Prop}{pb xb:Nat}{c:Cfg}{σ:Sg}{p:Pe}{w:World}(kk:Int)(pass:Bool)(h:Pp w U pb xb c σ p)(hG:Gd c σ p)(hc:c.Ok)(hn:bud c σ+2<1048576)(hk:Kp p)(hkk:-9223372036854775808<=kk/\kk<9223372036854775808):Calls prog 59 #[.pointer (some ⟨pb,0,none⟩),.int .i64 kk,.bool pass] w λe w'=>Acts w w' e U pb xb c σ:=by
  refine(pl_ends U pb xb c σ p kk pass w h hG hc (by omega) hkk).mono ?_
  rintro e w' ⟨he,σ',p',U',h1,h2,h3,h4⟩
  refine⟨he,σ',p',U',h1,h2,⟨h3,?_⟩,by have:=h4.bud;omega⟩
  rcases h4 with ⟨_,_,rfl⟩|⟨_,_,_,_,rfl⟩
  · exact hk
  · exact hk
theorem acts_tick {U:Nat->Prop}{pb xb:Nat}{c:Cfg}{σ:Sg}{p:Pe}{w:World}(n:Nat)(h:Pp w U pb xb c σ p)(hG:Gd c σ p)(hc:c.Ok)(hn:bud c σ+2<1048576)(hk:Kp p)(hn1:1<=n/\n<=1000):Calls prog 62 #[.pointer (some ⟨pb,0,none⟩),.int .i64 n] w λe w'=>Acts w w' e U pb xb c σ:=by
  refine(pl_tick U pb xb c σ p n w h hG hc (by omega) hn1).mono ?_
  rintro e w' ⟨he,σ',p',U',h1,h2,h3,h4⟩
  exact⟨he,σ',p',U',h1,h2,⟨h3.1,by unfold Kp;rw[h3.2];exact hk⟩,by have:=h4.bud;omega⟩
theorem acts_crash {U:Nat->Prop}{pb xb:Nat}{c:Cfg}{σ:Sg}{p:Pe}{w:World}(h:Pp w U pb xb c σ p)(hG:Gd c σ p)(hc:c.Ok)(hn:bud c σ+2<1048576)(hk:Kp p):Calls prog 34 #[.pointer (some ⟨pb,0,none⟩)] w λe w'=>Acts w w' e U pb xb c σ:=by
  refine(pl_crash U pb xb c σ p w h hG hc (by omega)).mono ?_
  rintro e w' ⟨he,σ',p',U',h1,h2,h3,h4⟩
  exact⟨he,σ',p',U',h1,h2,⟨h3,known_pos h4.kn hk⟩,by have:=h4.bud;omega⟩
theorem acts_submit {U:Nat->Prop}{pb xb:Nat}{c:Cfg}{σ:Sg}{p:Pe}{w:World}(id lane:Nat)(es:List Ed)(ea:Option Addr)(ec:Nat)(h:Pp w U pb xb c σ p)(hG:Gd c σ p)(hc:c.Ok)(hn:bud c σ+2<1048576)(hk:Kp p)(h1k:id<=1000)(hch:ChOK c id lane es)(hE:EditsAt w (.slice ea es.length ec) es)(hcap:es.length<=ec)(hX:∀b,(Value.slice ea es.length ec).ownBlock=some b->¬U b):
    Calls prog 21 #[.pointer (some ⟨pb,0,none⟩),.int .i64 id,.int .i64 lane,.slice ea es.length ec] w λe w'=>Acts w w' e U pb xb c σ:=by
  refine(pl_submit U pb xb c σ p id lane es ea ec w h hG hc hn hch hE hcap hX).mono ?_
  rintro e w' ⟨he,σ',p',U',h1,h2,h3,h4⟩
  refine⟨he,σ',p',U',h1,h2,⟨h3,?_⟩,h4.bud⟩
  rcases h4 with ⟨_,_,rfl⟩|⟨_,_,_,_,rfl⟩
  · exact hk
  · refine⟨?_,λi hi=>?_⟩
    · show 0<(p.known++[_]).length
      rw[List.length_append];exact Nat.lt_of_lt_of_le hk.1 (Nat.le_add_right _ _)
    · have hi:i∈(p.known++[(⟨id,0,es⟩:Kn)]).map Kn.id:=hi
      rw[List.map_append] at hi
      rcases List.mem_append.1 hi with hi|hi
      · exact hk.2 i hi
      · obtain rfl:=List.mem_singleton.1 hi
        exact .inl h1k
theorem edZ_path (k:Nat)(q:Bool)(j:Nat):(edZ k q j).1=(edZ k q 0).1:=rfl
theorem ed_new (w:World)(a b c:Value)(t:TypeId):∀j u,[a,b,c][j]? =some u->(w.alloc (.cells #[a,b,c] t)).cell? ((⟨w.heap.size,0,none⟩:Addr).add j)=some u:=by
  intro j u h
  match j,h with
  |0,h=>simp at h;subst h;simp[Addr.add]
  |1,h=>simp at h;subst h;simp[Addr.add]
  |2,h=>simp at h;subst h;simp[Addr.add]
theorem ed_new1 (w:World)(o:Obj)(a b c:Value)(t:TypeId):∀j u,[a,b,c][j]? =some u->((w.alloc o).alloc (.cells #[a,b,c] t)).cell? ((⟨w.heap.size+1,0,none⟩:Addr).add j)=some u:=by
  have:=ed_new (w.alloc o) a b c t
  simpa using this
theorem ed_snoc {w:World}{base:Nat}{e:TypeId}{v:Value}{n:Nat}{ss:List Ed}{f:Ed}(h:w.ownsRow base e 3 v (n+1) (ss.flatMap cE++[.string f.1,.string f.2.1,.string f.2.2])):w.ownsRow base e 3 v (n+1) ((ss++[f]).flatMap cE):=by
  have e2:(ss++[f]).flatMap cE=ss.flatMap cE++[.string f.1,.string f.2.1,.string f.2.2]:=by simp[cE]
  rw[e2];exact h
theorem ed_below {wo wr w3:World}{n size:Nat}{e:TypeId}{o o':Obj}{v:Value}{xs:List Value}(hb:Below wo.heap.size wo wr)(hrow:wr.ownsRow wo.heap.size e size v n xs)(hg:((wr.alloc o).alloc o').grownBy w3 v.ownBlock):Below wo.heap.size wo w3:=by
  have h1:=hb.size
  have h2:=(hb.alloc hb.size o).alloc (by simp;omega) o'
  exact h2.grown hg h2.size (λj hj=>(hrow.lt j hj).1)
theorem law_edits (l:List Ed)(a:Option Addr)(b off cap:Nat)(w:World)(ha:Hid (0<l.length->a=some ⟨b,off,none⟩/\b<w.heap.size))(h0:∀i (h:i<l.length),w.cell? ⟨b,off+i*3,none⟩=some (.string l[i].1))(h1:∀i (h:i<l.length),w.cell? ⟨b,off+i*3+1,none⟩=some (.string l[i].2.1))(h2:∀i (h:i<l.length),w.cell? ⟨b,off+i*3+2,none⟩=some (.string l[i].2.2))(hn:l.length<8796093022208):
    Calls prog 60 #[.slice a l.length cap] w λe w'=>(∃es ea ec,e=.returned (.slice ea es.length ec)/\EditsOK es/\w'.ownsRow w.heap.size 49 3 (.slice ea es.length ec) es.length (es.flatMap cE))/\Below w.heap.size w w':=by
  obtain⟨i0,hi,hz0,hz1,hz2⟩:=info_parts info49c
  go_enter func60,ntmps60
  go_wp2_with fail
  go_loopw [3,4] (λov iv wr=>∃k:Nat,∃es:List Ed,k<=2/\k<=l.length/\iv=.int .i64 k/\Hid (EdsOf k es)/\Hid (wr.ownsRow w.heap.size 49 3 ov k (es.flatMap cE))/\Below w.heap.size w wr) (λ_ iv _=>2-(intOf iv).toNat)
  case atStart=>exact⟨0,[],Nat.zero_le _,Nat.zero_le _,rfl,rfl,World.ownsRow_nil _ _ _ _,Below.refl _ _⟩
  case round=>
    obtain⟨k,es,hk2,hkl,rfl,HE,HR,hb⟩:=hrel
    by_cases hlk:k<l.length/\k<2
    · obtain⟨rfl,hlt⟩:=ha.out (by omega)
      obtain⟨g0,g1,g2,gb⟩:=edits_cells hb hlt h0 h1 h2
      have c0:=g0 k hlk.1
      have c1:=g1 k hlk.1
      have c2:=g2 k hlk.1
      have hlk1:=hlk.1
      have hlk2:=hlk.2
      generalize l[k].1=s0 at c0
      generalize l[k].2.1=s1 at c1
      generalize l[k].2.2=s2 at c2
      clear h0 h1 h2 g0 g1 g2 hlk
      go_upto_if 19 with fail
      go_cut [5] from 8 to 65 (λt wz=>t=.string (edZ k false 0).1/\wr=wz)
      case first=>
        have hk01:k=0\/k=1:=by omega
        rcases hk01 with rfl|rfl
        · go_wp2_with fail
          go_meet
          case rel=>exact⟨rfl,rfl⟩
        · go_wp2_with fail
          go_meet
          case rel=>exact⟨rfl,rfl⟩
      case rest=>
        obtain⟨rfl,rfl⟩:=hcut
        go_upto_if 27 with fail
        go_cut [5] from 8 to 65 (λt wz=>∃q,t=.string (edZ k q 0).1/\wr=wz)
        case first=>
          have hk01:k=0\/k=1:=by omega
          rcases hk01 with rfl|rfl
          · have e97:(edZ 0 false 0).1=⟨#[97]⟩:=rfl
            rw[e97]
            clear e97
            go_wp2_with fail
            · go_meet
              case rel=>exact⟨true,rfl,rfl⟩
            · go_meet
              case rel=>exact⟨false,rfl,rfl⟩
          · have e97:(edZ 1 false 0).1=⟨#[98]⟩:=rfl
            rw[e97]
            clear e97
            go_wp2_with fail
            · go_meet
              case rel=>exact⟨true,rfl,rfl⟩
            · go_meet
              case rel=>exact⟨false,rfl,rfl⟩
        case rest=>
          obtain⟨q,rfl,rfl⟩:=hcut
          generalize hpt:(edZ k q 0).1=pt at *
          have Hpt:Hid ((edZ k q 0).1=pt):=hpt
          clear hpt
          have hs1:s1.size=0\/(0<s1.size/\¬4<s1.size)\/4<s1.size:=by omega
          have q1:Hid (k+1<=maxLen):=roomlen (by omega)
          have q2:Hid ((k+1)*48<=140737488355328):=room48 (by omega)
          have q3:Hid (∀o o',w.heap.size<=((wr.alloc o).alloc o').heap.size):=λo o'=>room_base (room_base hb.size o) o'
          rcases hs1 with hs1|⟨hs1,hs1'⟩|hs1
          · have hd1:decide ((s1.size:Int)>0)=false:=decide_eq_false (by omega)
            have hd2:decide ((s1.size:Int)>4)=false:=decide_eq_false (by omega)
            go_wp2_with (first
              |(at_builtin;refine wpList_append_own_at _ rfl (.tmp 62) (.tmp 64) _ rfl w.heap.size _ i0 _ 3 48 underlying27 hi hz0 hz1 hz2 rfl (by decide) u3 _ _ rfl ((HR.out.alloc _).alloc _) ⟨wr.heap.size+1,0,none⟩ 1 1 [.string pt,.string ⟨#[]⟩,.string ⟨#[120]⟩] rfl rfl (ed_new1 wr _ _ _ _ _) (by simp[Value.oneCell']) q1.out q2.out (q3.out _ _) ?_;intro v1 w1 hown1 hg1 hnil1 hloc1;clear hnil1 hloc1))
            · go_roundw
              case rel=>exact⟨k+1,es++[edZ k q 0],by omega,hlk1,by go_num,HE.out.next hlk2 q 0 (by decide),ed_snoc (by rw[edZ_path,Hpt.out];exact hown1),ed_below hb HR.out hg1⟩
              case measure=>simp[intOf];omega
            · go_roundw
              case rel=>exact⟨k+1,es++[edZ k q 0],by omega,hlk1,by go_num,HE.out.next hlk2 q 0 (by decide),ed_snoc (by rw[edZ_path,Hpt.out];exact hown1),ed_below hb HR.out hg1⟩
              case measure=>simp[intOf];omega
          · have hd1:decide ((s1.size:Int)>0)=true:=decide_eq_true (by omega)
            have hd2:decide ((s1.size:Int)>4)=false:=decide_eq_false (by omega)
            go_wp2_with (first
              |(at_builtin;refine wpList_append_own_at _ rfl (.tmp 62) (.tmp 64) _ rfl w.heap.size _ i0 _ 3 48 underlying27 hi hz0 hz1 hz2 rfl (by decide) u3 _ _ rfl ((HR.out.alloc _).alloc _) ⟨wr.heap.size+1,0,none⟩ 1 1 [.string pt,.string ⟨#[120]⟩,.string ⟨#[121]⟩] rfl rfl (ed_new1 wr _ _ _ _ _) (by simp[Value.oneCell']) q1.out q2.out (q3.out _ _) ?_;intro v1 w1 hown1 hg1 hnil1 hloc1;clear hnil1 hloc1)
              |(at_builtin;refine wpList_append_own_at _ rfl (.tmp 62) (.tmp 64) _ rfl w.heap.size _ i0 _ 3 48 underlying27 hi hz0 hz1 hz2 rfl (by decide) u3 _ _ rfl ((HR.out.alloc _).alloc _) ⟨wr.heap.size+1,0,none⟩ 1 1 [.string pt,.string ⟨#[120]⟩,.string ⟨#[]⟩] rfl rfl (ed_new1 wr _ _ _ _ _) (by simp[Value.oneCell']) q1.out q2.out (q3.out _ _) ?_;intro v1 w1 hown1 hg1 hnil1 hloc1;clear hnil1 hloc1))
            · go_roundw
              case rel=>exact⟨k+1,es++[edZ k q 2],by omega,hlk1,by go_num,HE.out.next hlk2 q 2 (by decide),ed_snoc (by rw[edZ_path,Hpt.out];exact hown1),ed_below hb HR.out hg1⟩
              case measure=>simp[intOf];omega
            · go_roundw
              case rel=>exact⟨k+1,es++[edZ k q 1],by omega,hlk1,by go_num,HE.out.next hlk2 q 1 (by decide),ed_snoc (by rw[edZ_path,Hpt.out];exact hown1),ed_below hb HR.out hg1⟩
              case measure=>simp[intOf];omega
          · have hd1:decide ((s1.size:Int)>0)=true:=decide_eq_true (by omega)
            have hd2:decide ((s1.size:Int)>4)=true:=decide_eq_true (by omega)
            go_wp2_with (first
              |(at_builtin;refine wpList_append_own_at _ rfl (.tmp 62) (.tmp 64) _ rfl w.heap.size _ i0 _ 3 48 underlying27 hi hz0 hz1 hz2 rfl (by decide) u3 _ _ rfl ((HR.out.alloc _).alloc _) ⟨wr.heap.size+1,0,none⟩ 1 1 [.string pt,.string ⟨#[121]⟩,.string ⟨#[120]⟩] rfl rfl (ed_new1 wr _ _ _ _ _) (by simp[Value.oneCell']) q1.out q2.out (q3.out _ _) ?_;intro v1 w1 hown1 hg1 hnil1 hloc1;clear hnil1 hloc1)
              |(at_builtin;refine wpList_append_own_at _ rfl (.tmp 62) (.tmp 64) _ rfl w.heap.size _ i0 _ 3 48 underlying27 hi hz0 hz1 hz2 rfl (by decide) u3 _ _ rfl ((HR.out.alloc _).alloc _) ⟨wr.heap.size+1,0,none⟩ 1 1 [.string pt,.string ⟨#[121]⟩,.string ⟨#[]⟩] rfl rfl (ed_new1 wr _ _ _ _ _) (by simp[Value.oneCell']) q1.out q2.out (q3.out _ _) ?_;intro v1 w1 hown1 hg1 hnil1 hloc1;clear hnil1 hloc1))
            · go_roundw
              case rel=>exact⟨k+1,es++[edZ k q 4],by omega,hlk1,by go_num,HE.out.next hlk2 q 4 (by decide),ed_snoc (by rw[edZ_path,Hpt.out];exact hown1),ed_below hb HR.out hg1⟩
              case measure=>simp[intOf];omega
            · go_roundw
              case rel=>exact⟨k+1,es++[edZ k q 3],by omega,hlk1,by go_num,HE.out.next hlk2 q 3 (by decide),ed_snoc (by rw[edZ_path,Hpt.out];exact hown1),ed_below hb HR.out hg1⟩
              case measure=>simp[intOf];omega
    · have hx:(¬k<l.length)\/(k<l.length/\¬k<2):=by omega
      have hlen:=HE.out.len hk2
      have Hlen:Hid (es.length=k):=hlen
      clear hlen h0 h1 h2
      by_cases hk0:k=0
      · subst hk0
        have hl0:l.length=0:=by omega
        clear hx hlk
        have He:es=[]:=HE.out
        subst He
        have q1:Hid (0+1<=maxLen):=roomlen (by omega)
        have q2:Hid ((0+1)*48<=140737488355328):=room48 (by omega)
        have q3:Hid (∀o,w.heap.size<=(wr.alloc o).heap.size):=λo=>room_base hb.size o
        obtain⟨a3,c3,rfl⟩:=row_form HR.out
        go_wp2_with (at_builtin;refine wpList_append_own_at _ rfl (.tmp 69) (.tmp 71) _ rfl w.heap.size _ i0 _ 3 48 underlying27 hi hz0 hz1 hz2 rfl (by decide) (.slice a3 0 c3) _ _ rfl (HR.out.alloc _) ⟨wr.heap.size,0,none⟩ 1 1 [.string ⟨#[99]⟩,.string ⟨#[]⟩,.string ⟨#[120]⟩] rfl rfl (ed_new wr _ _ _ _) (by simp[Value.oneCell']) q1.out q2.out (q3.out _) ?_;intro v1 w1 hown1 hg1 hnil1 hloc1;clear hnil1 hloc1)
        obtain⟨a4,c4,rfl⟩:=row_form hown1
        go_ret
        exact⟨⟨[cB],a4,c4,rfl,cB_ok,hown1⟩,(hb.alloc hb.size _).grown hg1 (q3.out _) λi hi=>(HR.out.lt i hi).1⟩
      · obtain⟨a3,c3,rfl⟩:=row_form HR.out
        have hk1:((k:Int)==0)=false:=by simp[hk0]
        rcases hx with hx|⟨hx,hx'⟩
        · clear hlk
          go_wp2_with fail
          go_ret
          have h1:=HR.out
          rw[<-Hlen.out] at h1
          exact⟨⟨es,a3,c3,by rw[Hlen.out];rfl,HE.out.ok hk0,h1⟩,hb⟩
        · clear hlk
          go_wp2_with fail
          go_ret
          have h1:=HR.out
          rw[<-Hlen.out] at h1
          exact⟨⟨es,a3,c3,by rw[Hlen.out];rfl,HE.out.ok hk0,h1⟩,hb⟩
def SettingsGive (e:Ending)(w w':World):Prop:=(∃c:Cfg,c.Ok/\e=.returned (.agg c.cells.toArray))/\Below w.heap.size w w'
theorem pick_lit (c:Int)(n:Nat)(m:Int)(hm:m=n)(hc:-9223372036854775808<=c/\c<9223372036854775808)(h0:0<n)(hn:n<1099511627776):∃z:Nat,z<n/\∀w,Calls prog 26 #[.int .i64 c,.int .i64 m] w λe w'=>e=.returned (.int .i64 (z:Nat))/\w'=w:=
  ⟨pickN c n,pickN_lt h0,λw=>by rw[hm];exact pick_at c n hc h0 hn w⟩
theorem still_tail {P:Program}{id:Nat}{Q:Exit->Act->World->Prop}{a:Act}{w:World}{l:List Oper}(n:Nat)(hm:P.follows .mixedOrders=true)(hB:Region.lexTailB .any l.toArray n=true)(h:∀(ops:Array Oper) (QQ:Act->Prop),Hid (∀a',wpList P l.toArray Q (l.drop n) a' w.drew->QQ a')->wpStill P ops w.drew QQ (l.take n) a):(Code.region id l.toArray true).wp P Q a w:=
  wp_region_still_tail n hm hB (h _ _ λ_ h=>h)
theorem law_settings (n0 n1 n2 n3 n4 n5 n6:Int)(w:World)(h0:-9223372036854775808<=n0/\n0<9223372036854775808)(h1:-9223372036854775808<=n1/\n1<9223372036854775808)(h2:-9223372036854775808<=n2/\n2<9223372036854775808)(h3:-9223372036854775808<=n3/\n3<9223372036854775808)(h4:-9223372036854775808<=n4/\n4<9223372036854775808)(h5:-9223372036854775808<=n5/\n5<9223372036854775808)(h6:-9223372036854775808<=n6/\n6<9223372036854775808):
    Calls prog 17 #[.agg #[.int .i64 n0,.int .i64 n1,.int .i64 n2,.int .i64 n3,.int .i64 n4,.int .i64 n5,.int .i64 n6]] w λe w'=>SettingsGive e w w':=by
  obtain⟨z0,b0,P0⟩:=pick_lit n0 4 4 rfl h0 (by decide) (by decide)
  obtain⟨z1,b1,P1⟩:=pick_lit n1 8 8 rfl h1 (by decide) (by decide)
  obtain⟨z2,b2,P2⟩:=pick_lit n2 8 8 rfl h2 (by decide) (by decide)
  obtain⟨z3,b3,P3⟩:=pick_lit n3 4 4 rfl h3 (by decide) (by decide)
  obtain⟨z4,b4,P4⟩:=pick_lit n4 4 4 rfl h4 (by decide) (by decide)
  obtain⟨z5,b5,P5⟩:=pick_lit n5 100 100 rfl h5 (by decide) (by decide)
  obtain⟨z6,b6,P6⟩:=pick_lit n6 16 16 rfl h6 (by decide) (by decide)
  clear h0 h1 h2 h3 h4 h5 h6
  go_enter func17,ntmps17
  go_upto_region 1 with fail
  have hbW:Below w.heap.size w ((w.alloc (.cells #[.int .i64 n0,.int .i64 n1,.int .i64 n2,.int .i64 n3,.int .i64 n4,.int .i64 n5,.int .i64 n6] 23)).alloc (.cells #[.int .i64 0,.int .i64 0,.int .i64 0,.int .i64 0,.int .i64 0,.int .i64 0,.int .i64 0] 23)):=(below_new _ _).trans ((below_new _ _).mono (by simp))
  have hB1:=Bx.mk (Bx.new w #[.int .i64 n0,.int .i64 n1,.int .i64 n2,.int .i64 n3,.int .i64 n4,.int .i64 n5,.int .i64 n6] 23) (.cells #[.int .i64 0,.int .i64 0,.int .i64 0,.int .i64 0,.int .i64 0,.int .i64 0,.int .i64 0] 23)
  have hB2:=Bx.new (w.alloc (.cells #[.int .i64 n0,.int .i64 n1,.int .i64 n2,.int .i64 n3,.int .i64 n4,.int .i64 n5,.int .i64 n6] 23)) #[.int .i64 0,.int .i64 0,.int .i64 0,.int .i64 0,.int .i64 0,.int .i64 0,.int .i64 0] 23
  have hsz:(w.alloc (.cells #[.int .i64 n0,.int .i64 n1,.int .i64 n2,.int .i64 n3,.int .i64 n4,.int .i64 n5,.int .i64 n6] 23)).heap.size=w.heap.size+1:=by simp
  rw[hsz] at hB2
  clear hsz
  generalize (w.alloc (.cells #[.int .i64 n0,.int .i64 n1,.int .i64 n2,.int .i64 n3,.int .i64 n4,.int .i64 n5,.int .i64 n6] 23)).alloc (.cells #[.int .i64 0,.int .i64 0,.int .i64 0,.int .i64 0,.int .i64 0,.int .i64 0,.int .i64 0] 23)=W at *
  have c0:=hB1.c 0 (.int .i64 n0)
  have c1:=hB1.c 1 (.int .i64 n1)
  have c2:=hB1.c 2 (.int .i64 n2)
  have c3:=hB1.c 3 (.int .i64 n3)
  have c4:=hB1.c 4 (.int .i64 n4)
  have c5:=hB1.c 5 (.int .i64 n5)
  have c6:=hB1.c 6 (.int .i64 n6)
  have HB2:Hid (Bx W (w.heap.size+1) 23 #[.int .i64 0,.int .i64 0,.int .i64 0,.int .i64 0,.int .i64 0,.int .i64 0,.int .i64 0]):=hB2
  clear hB1 hB2
  refine still_tail 28 (by kernel_rfl) (by kernel_rfl) λops QQ hQQ=>?_
  simp only[List.take_succ_cons,List.take_zero]
  still_step
  still_step
  still_call (P0 _)
  still_step
  still_step
  still_step
  still_call (P1 _)
  still_step
  still_step
  still_step
  still_call (P2 _)
  still_step
  still_step
  still_step
  still_call (P3 _)
  still_step
  still_step
  still_step
  still_call (P4 _)
  still_step
  still_step
  still_call (P5 _)
  still_step
  still_step
  still_step
  still_call (P6 _)
  still_step
  still_step
  refine wpStill_nil ?_
  refine hQQ.out _ ?_
  clear hQQ P0 P1 P2 P3 P4 P5 P6
  have e0:IntKind.i64.wrap (1+(z0:Int))=((1+z0:Nat):Int):=by rw[wrap_i64 (by omega) (by omega)];omega
  have e1:IntKind.i64.wrap (1+(z1:Int))=((1+z1:Nat):Int):=by rw[wrap_i64 (by omega) (by omega)];omega
  have e2:IntKind.i64.wrap (1+(z2:Int))=((1+z2:Nat):Int):=by rw[wrap_i64 (by omega) (by omega)];omega
  have e3:IntKind.i64.wrap (1+(z3:Int))=((1+z3:Nat):Int):=by rw[wrap_i64 (by omega) (by omega)];omega
  have e5:IntKind.i64.wrap (1+(z5:Int))=((1+z5:Nat):Int):=by rw[wrap_i64 (by omega) (by omega)];omega
  have e6:IntKind.i64.wrap (1+(z6:Int))=((1+z6:Nat):Int):=by rw[wrap_i64 (by omega) (by omega)];omega
  rw[e0,e1,e2,e3,e5,e6]
  clear e0 e1 e2 e3 e5 e6
  obtain⟨y0,hy0⟩:∃y,y=1+z0:=⟨_,rfl⟩
  rw[<-hy0]
  obtain⟨y1,hy1⟩:∃y,y=1+z1:=⟨_,rfl⟩
  rw[<-hy1]
  obtain⟨y2,hy2⟩:∃y,y=1+z2:=⟨_,rfl⟩
  rw[<-hy2]
  obtain⟨y3,hy3⟩:∃y,y=1+z3:=⟨_,rfl⟩
  rw[<-hy3]
  obtain⟨y5,hy5⟩:∃y,y=1+z5:=⟨_,rfl⟩
  rw[<-hy5]
  obtain⟨y6,hy6⟩:∃y,y=1+z6:=⟨_,rfl⟩
  rw[<-hy6]
  obtain⟨y4,hy4⟩:∃y,y=z4:=⟨_,rfl⟩
  rw[<-hy4]
  have HC:Hid (Cfg.Ok ⟨y0,y1,y2,y3,y4,y5,y6⟩):=by
    show Cfg.Ok _
    simp only[Cfg.Ok]
    omega
  clear hy0 hy1 hy2 hy3 hy4 hy5 hy6 b0 b1 b2 b3 b4 b5 b6
  have fr:∀i,W.frozen? ⟨w.heap.size+1,i,none⟩=false:=λi=>HB2.out.fr i
  have d0:=HB2.out.c 0 (.int .i64 0)
  have d1:=HB2.out.c 1 (.int .i64 0)
  have d2:=HB2.out.c 2 (.int .i64 0)
  have d3:=HB2.out.c 3 (.int .i64 0)
  have d4:=HB2.out.c 4 (.int .i64 0)
  have d5:=HB2.out.c 5 (.int .i64 0)
  have d6:=HB2.out.c 6 (.int .i64 0)
  clear c0 c1 c2 c3 c4 c5 c6
  go_wp2_with fail
  have BW:=Bx.drewd (((((((HB2.out.set 0 (.int .i64 y0)).set 1 (.int .i64 y1)).set 2 (.int .i64 y2)).set 3 (.int .i64 y3)).set 4 (.int .i64 y4)).set 5 (.int .i64 y5)).set 6 (.int .i64 y6))
  simp only[List.setIfInBounds_toArray,List.set_cons_zero,List.set_cons_succ] at BW
  have HW:=drew_below (.one _ 1) (below_set (below_set (below_set (below_set (below_set (below_set (below_set hbW (Nat.le_succ _) 0 (.int .i64 y0)) (Nat.le_succ _) 1 (.int .i64 y1)) (Nat.le_succ _) 2 (.int .i64 y2)) (Nat.le_succ _) 3 (.int .i64 y3)) (Nat.le_succ _) 4 (.int .i64 y4)) (Nat.le_succ _) 5 (.int .i64 y5)) (Nat.le_succ _) 6 (.int .i64 y6))
  have eW:(((((((W.setCell ⟨w.heap.size+1,0,none⟩ (.int .i64 y0)).setCell ⟨w.heap.size+1,1,none⟩ (.int .i64 y1)).setCell ⟨w.heap.size+1,2,none⟩ (.int .i64 y2)).setCell ⟨w.heap.size+1,3,none⟩ (.int .i64 y3)).setCell ⟨w.heap.size+1,4,none⟩ (.int .i64 y4)).setCell ⟨w.heap.size+1,5,none⟩ (.int .i64 y5)).setCell ⟨w.heap.size+1,6,none⟩ (.int .i64 y6)).drew=(((((((W.setCell ⟨w.heap.size+1,0,none⟩ (.int .i64 y0)).setCell ⟨w.heap.size+1,1,none⟩ (.int .i64 y1)).setCell ⟨w.heap.size+1,2,none⟩ (.int .i64 y2)).setCell ⟨w.heap.size+1,3,none⟩ (.int .i64 y3)).setCell ⟨w.heap.size+1,4,none⟩ (.int .i64 y4)).setCell ⟨w.heap.size+1,5,none⟩ (.int .i64 y5)).setCell ⟨w.heap.size+1,6,none⟩ (.int .i64 y6)).drewN 1:=rfl
  rw[<-eW] at HW
  clear eW
  generalize (((((((W.setCell ⟨w.heap.size+1,0,none⟩ (.int .i64 y0)).setCell ⟨w.heap.size+1,1,none⟩ (.int .i64 y1)).setCell ⟨w.heap.size+1,2,none⟩ (.int .i64 y2)).setCell ⟨w.heap.size+1,3,none⟩ (.int .i64 y3)).setCell ⟨w.heap.size+1,4,none⟩ (.int .i64 y4)).setCell ⟨w.heap.size+1,5,none⟩ (.int .i64 y5)).setCell ⟨w.heap.size+1,6,none⟩ (.int .i64 y6)).drew=V at *
  have f0:=BW.c 0 (.int .i64 y0)
  have f1:=BW.c 1 (.int .i64 y1)
  have f2:=BW.c 2 (.int .i64 y2)
  have f3:=BW.c 3 (.int .i64 y3)
  have f4:=BW.c 4 (.int .i64 y4)
  have f5:=BW.c 5 (.int .i64 y5)
  have f6:=BW.c 6 (.int .i64 y6)
  exact bodyPost_ret (v:=.agg #[.int .i64 y0,.int .i64 y1,.int .i64 y2,.int .i64 y3,.int .i64 y4,.int .i64 y5,.int .i64 y6]) (by simp[results,results17,go_sem,f0,f1,f2,f3,f4,f5,f6]) rfl ⟨⟨⟨y0,y1,y2,y3,y4,y5,y6⟩,HC.out,rfl⟩,HW⟩
abbrev actB (kind id lane:Int)(pass:Bool)(ev:Value):Array Value:=#[.int .i64 kind,.int .i64 id,.int .i64 lane,.bool pass,ev]
theorem Acts.same {w w':World}{U:Nat->Prop}{pb xb:Nat}{c:Cfg}{σ:Sg}{p:Pe}(h:Pp w U pb xb c σ p)(hG:Gd c σ p)(hk:Kp p)(hb:Below w.heap.size w w'):Acts w w' (.returned (.bool true)) U pb xb c σ:=
  ⟨rfl,σ,p,U,h.later hb,Grows.of_below hb,⟨hG,hk⟩,Nat.le_add_right _ _⟩
theorem act2 {U:Nat->Prop}{pb xb:Nat}{c:Cfg}{σ:Sg}{p:Pe}{w:World}(id lane:Int)(pass:Bool)(ea:Option Addr)(en ec:Nat)(h:Pp w U pb xb c σ p)(hG:Gd c σ p)(hc:c.Ok)(hn:bud c σ+2<1048576)(hk:Kp p)(hid:-9223372036854775808<=id/\id<9223372036854775808):
    Calls prog 18 #[.pointer (some ⟨pb,0,none⟩),.agg #[.int .i64 2,.int .i64 id,.int .i64 lane,.bool pass,.slice ea en ec]] w λe w'=>Acts w w' e U pb xb c σ:=by
  have hb:=below_new w (.cells (actB 2 id lane pass (.slice ea en ec)) 29)
  have hS:=acts_cancel id (h.later hb) hG hc hn hk hid
  have HB:Hid (Below w.heap.size w (w.alloc (.cells (actB 2 id lane pass (.slice ea en ec)) 29))):=hb
  clear h hG hc hn hk hid hb
  go_enter func18,ntmps18
  go_wp2_with fail
  go_fit hS
  rintro e w1 hA
  have HA:Hid (Acts w w1 e U pb xb c σ):=Acts.of_below HB.out hA
  obtain rfl:=hA.1
  clear hS hA
  go_wp2_with fail
  go_ret
  exact HA.out
theorem act3 {U:Nat->Prop}{pb xb:Nat}{c:Cfg}{σ:Sg}{p:Pe}{w:World}(id lane:Int)(pass:Bool)(ea:Option Addr)(en ec:Nat)(h:Pp w U pb xb c σ p)(hG:Gd c σ p)(hc:c.Ok)(hn:bud c σ+2<1048576)(hk:Kp p):
    Calls prog 18 #[.pointer (some ⟨pb,0,none⟩),.agg #[.int .i64 3,.int .i64 id,.int .i64 lane,.bool pass,.slice ea en ec]] w λe w'=>Acts w w' e U pb xb c σ:=by
  have hb:=below_new w (.cells (actB 3 id lane pass (.slice ea en ec)) 29)
  have hS:=acts_pump (h.later hb) hG hc hn hk
  have HB:Hid (Below w.heap.size w (w.alloc (.cells (actB 3 id lane pass (.slice ea en ec)) 29))):=hb
  clear h hG hc hn hk hb
  go_enter func18,ntmps18
  go_wp2_with fail
  go_fit hS
  rintro e w1 hA
  have HA:Hid (Acts w w1 e U pb xb c σ):=Acts.of_below HB.out hA
  obtain rfl:=hA.1
  clear hS hA
  go_wp2_with fail
  go_ret
  exact HA.out
theorem act4 {U:Nat->Prop}{pb xb:Nat}{c:Cfg}{σ:Sg}{p:Pe}{w:World}(id lane:Int)(pass:Bool)(ea:Option Addr)(en ec:Nat)(h:Pp w U pb xb c σ p)(hG:Gd c σ p)(hc:c.Ok)(hn:bud c σ+2<1048576)(hk:Kp p)(hid:-9223372036854775808<=id/\id<9223372036854775808):
    Calls prog 18 #[.pointer (some ⟨pb,0,none⟩),.agg #[.int .i64 4,.int .i64 id,.int .i64 lane,.bool pass,.slice ea en ec]] w λe w'=>Acts w w' e U pb xb c σ:=by
  have hb:=below_new w (.cells (actB 4 id lane pass (.slice ea en ec)) 29)
  have hS:=acts_ends id pass (h.later hb) hG hc hn hk hid
  have HB:Hid (Below w.heap.size w (w.alloc (.cells (actB 4 id lane pass (.slice ea en ec)) 29))):=hb
  clear h hG hc hn hk hid hb
  go_enter func18,ntmps18
  go_wp2_with fail
  go_fit hS
  rintro e w1 hA
  have HA:Hid (Acts w w1 e U pb xb c σ):=Acts.of_below HB.out hA
  obtain rfl:=hA.1
  clear hS hA
  go_wp2_with fail
  go_ret
  exact HA.out
theorem act5 {U:Nat->Prop}{pb xb:Nat}{c:Cfg}{σ:Sg}{p:Pe}{w:World}(id lane:Int)(pass:Bool)(ea:Option Addr)(en ec:Nat)(h:Pp w U pb xb c σ p)(hG:Gd c σ p)(hc:c.Ok)(hn:bud c σ+2<1048576)(hk:Kp p)(hid:-9223372036854775808<=id/\id<9223372036854775808):
    Calls prog 18 #[.pointer (some ⟨pb,0,none⟩),.agg #[.int .i64 5,.int .i64 id,.int .i64 lane,.bool pass,.slice ea en ec]] w λe w'=>Acts w w' e U pb xb c σ:=by
  have hb:=below_new w (.cells (actB 5 id lane pass (.slice ea en ec)) 29)
  have hS:=acts_ends id pass (h.later hb) hG hc hn hk hid
  have HB:Hid (Below w.heap.size w (w.alloc (.cells (actB 5 id lane pass (.slice ea en ec)) 29))):=hb
  clear h hG hc hn hk hid hb
  go_enter func18,ntmps18
  go_wp2_with fail
  go_fit hS
  rintro e w1 hA
  have HA:Hid (Acts w w1 e U pb xb c σ):=Acts.of_below HB.out hA
  obtain rfl:=hA.1
  clear hS hA
  go_wp2_with fail
  go_ret
  exact HA.out
theorem act9 {U:Nat->Prop}{pb xb:Nat}{c:Cfg}{σ:Sg}{p:Pe}{w:World}(id lane:Int)(pass:Bool)(ea:Option Addr)(en ec:Nat)(h:Pp w U pb xb c σ p)(hG:Gd c σ p)(hc:c.Ok)(hn:bud c σ+2<1048576)(hk:Kp p):
    Calls prog 18 #[.pointer (some ⟨pb,0,none⟩),.agg #[.int .i64 9,.int .i64 id,.int .i64 lane,.bool pass,.slice ea en ec]] w λe w'=>Acts w w' e U pb xb c σ:=by
  have hb:=below_new w (.cells (actB 9 id lane pass (.slice ea en ec)) 29)
  have hS:=acts_crash (h.later hb) hG hc hn hk
  have HB:Hid (Below w.heap.size w (w.alloc (.cells (actB 9 id lane pass (.slice ea en ec)) 29))):=hb
  clear h hG hc hn hk hb
  go_enter func18,ntmps18
  go_wp2_with fail
  go_fit hS
  rintro e w1 hA
  have HA:Hid (Acts w w1 e U pb xb c σ):=Acts.of_below HB.out hA
  obtain rfl:=hA.1
  clear hS hA
  go_wp2_with fail
  go_ret
  exact HA.out
theorem act10 {U:Nat->Prop}{pb xb:Nat}{c:Cfg}{σ:Sg}{p:Pe}{w:World}(id lane:Int)(pass:Bool)(ea:Option Addr)(en ec:Nat)(h:Pp w U pb xb c σ p)(hG:Gd c σ p)(hc:c.Ok)(hn:bud c σ+2<1048576)(hk:Kp p):
    Calls prog 18 #[.pointer (some ⟨pb,0,none⟩),.agg #[.int .i64 10,.int .i64 id,.int .i64 lane,.bool pass,.slice ea en ec]] w λe w'=>Acts w w' e U pb xb c σ:=by
  have hb:=below_new w (.cells (actB 10 id lane pass (.slice ea en ec)) 29)
  have hS:=acts_crash (h.later hb) hG hc hn hk
  have HB:Hid (Below w.heap.size w (w.alloc (.cells (actB 10 id lane pass (.slice ea en ec)) 29))):=hb
  clear h hG hc hn hk hb
  go_enter func18,ntmps18
  go_wp2_with fail
  go_fit hS
  rintro e w1 hA
  have HA:Hid (Acts w w1 e U pb xb c σ):=Acts.of_below HB.out hA
  obtain rfl:=hA.1
  clear hS hA
  go_wp2_with fail
  go_ret
  exact HA.out
theorem act11 {U:Nat->Prop}{pb xb:Nat}{c:Cfg}{σ:Sg}{p:Pe}{w:World}(id lane:Int)(pass:Bool)(ea:Option Addr)(en ec:Nat)(h:Pp w U pb xb c σ p)(hG:Gd c σ p)(hc:c.Ok)(hn:bud c σ+2<1048576)(hk:Kp p):
    Calls prog 18 #[.pointer (some ⟨pb,0,none⟩),.agg #[.int .i64 11,.int .i64 id,.int .i64 lane,.bool pass,.slice ea en ec]] w λe w'=>Acts w w' e U pb xb c σ:=by
  have hb:=below_new w (.cells (actB 11 id lane pass (.slice ea en ec)) 29)
  have hS:=acts_crash (h.later hb) hG hc hn hk
  have HB:Hid (Below w.heap.size w (w.alloc (.cells (actB 11 id lane pass (.slice ea en ec)) 29))):=hb
  clear h hG hc hn hk hb
  go_enter func18,ntmps18
  go_wp2_with fail
  go_fit hS
  rintro e w1 hA
  have HA:Hid (Acts w w1 e U pb xb c σ):=Acts.of_below HB.out hA
  obtain rfl:=hA.1
  clear hS hA
  go_wp2_with fail
  go_ret
  exact HA.out
theorem act6 {U:Nat->Prop}{pb xb:Nat}{c:Cfg}{σ:Sg}{p:Pe}{w:World}(id lane:Int)(pass:Bool)(ea:Option Addr)(en ec:Nat)(h:Pp w U pb xb c σ p)(hG:Gd c σ p)(hc:c.Ok)(hn:bud c σ+2<1048576)(hk:Kp p)(hid:-9223372036854775808<=id/\id<9223372036854775808):
    Calls prog 18 #[.pointer (some ⟨pb,0,none⟩),.agg #[.int .i64 6,.int .i64 id,.int .i64 lane,.bool pass,.slice ea en ec]] w λe w'=>Acts w w' e U pb xb c σ:=by
  have hb:=below_new w (.cells (actB 6 id lane pass (.slice ea en ec)) 29)
  obtain⟨z,hz,hP⟩:=pick_lit id 20 20 rfl hid (by decide) (by decide)
  have hS:=acts_tick (1+z) (h.later hb) hG hc hn hk (by omega)
  have ez:((1+z:Nat):Int)=1+(z:Int):=by omega
  rw[ez] at hS
  clear ez
  have HB:Hid (Below w.heap.size w (w.alloc (.cells (actB 6 id lane pass (.slice ea en ec)) 29))):=hb
  clear h hG hc hn hk hid hb
  go_enter func18,ntmps18
  go_wp2_with (go_at_call 26;go_fit (hP _);rintro e w1 ⟨rfl,rfl⟩)
  go_fit hS
  rintro e w1 hA
  have HA:Hid (Acts w w1 e U pb xb c σ):=Acts.of_below HB.out hA
  obtain rfl:=hA.1
  clear hS hA
  go_wp2_with fail
  go_ret
  exact HA.out
theorem actN {U:Nat->Prop}{pb xb:Nat}{c:Cfg}{σ:Sg}{p:Pe}{w:World}(kind:Int)(id lane:Int)(pass:Bool)(ea:Option Addr)(en ec:Nat)(h:Pp w U pb xb c σ p)(hG:Gd c σ p)(hk:Kp p)(hkd:kind≠1/\kind≠2/\kind≠3/\kind≠4/\kind≠5/\kind≠6/\kind≠9/\kind≠10/\kind≠11):
    Calls prog 18 #[.pointer (some ⟨pb,0,none⟩),.agg #[.int .i64 kind,.int .i64 id,.int .i64 lane,.bool pass,.slice ea en ec]] w λe w'=>Acts w w' e U pb xb c σ:=by
  have hb:=below_new w (.cells (actB kind id lane pass (.slice ea en ec)) 29)
  obtain⟨n1,n2,n3,n4,n5,n6,n9,n10,n11⟩:=hkd
  have e1:(kind==1)=false:=by simpa using n1
  have e2:(kind==2)=false:=by simpa using n2
  have e3:(kind==3)=false:=by simpa using n3
  have e4:(kind==4)=false:=by simpa using n4
  have e5:(kind==5)=false:=by simpa using n5
  have e6:(kind==6)=false:=by simpa using n6
  have e9:(kind==9)=false:=by simpa using n9
  have e10:(kind==10)=false:=by simpa using n10
  have e11:(kind==11)=false:=by simpa using n11
  have HA:Hid (Acts w (w.alloc (.cells (actB kind id lane pass (.slice ea en ec)) 29)) (.returned (.bool true)) U pb xb c σ):=Acts.same h hG hk hb
  clear h hG hk hb
  go_enter func18,ntmps18
  go_wp2_with fail
  go_ret
  exact HA.out
theorem ecell_alloc {w:World}{a:Addr}{v:Value}(h:w.cell? a=some v)(o:Obj):(w.alloc o).cell? a=some v:=by
  rw[(below_new w o).cell (block_lt_of_cell h)];exact h
theorem ecap_row {w:World}{base:Nat}{e:TypeId}{size:Nat}{va:Option Addr}{n vc:Nat}{xs:List Value}(h:w.ownsRow base e size (.slice va n vc) n xs):n<=vc:=by
  rcases h.2 with ⟨h,h0⟩|⟨g,cap,cur,h,_,_,h1,_⟩
  · cases h;omega
  · cases h;exact h1
theorem act1 {U:Nat->Prop}{pb xb:Nat}{c:Cfg}{σ:Sg}{p:Pe}{w:World}(id lane:Int)(pass:Bool)(l:List Ed)(ea:Option Addr)(b off ec:Nat)(h:Pp w U pb xb c σ p)(hG:Gd c σ p)(hc:c.Ok)(hn:bud c σ+2<1048576)(hk:Kp p)(hid:-9223372036854775808<=id/\id<9223372036854775808)(hln:-9223372036854775808<=lane/\lane<9223372036854775808)(ha:0<l.length->ea=some ⟨b,off,none⟩/\b<w.heap.size)(h0:∀i (h:i<l.length),w.cell? ⟨b,off+i*3,none⟩=some (.string l[i].1))(h1:∀i (h:i<l.length),w.cell? ⟨b,off+i*3+1,none⟩=some (.string l[i].2.1))(h2:∀i (h:i<l.length),w.cell? ⟨b,off+i*3+2,none⟩=some (.string l[i].2.2))(hl:l.length<8796093022208):
    Calls prog 18 #[.pointer (some ⟨pb,0,none⟩),.agg #[.int .i64 1,.int .i64 id,.int .i64 lane,.bool pass,.slice ea l.length ec]] w λe w'=>Acts w w' e U pb xb c σ:=by
  obtain⟨z,hz,hP⟩:=pick_lit id 1000 1000 rfl hid (by decide) (by decide)
  obtain⟨y,hy,hY⟩:=pick_lit lane c.lanes c.lanes rfl hln (by have:=hc.1.1;omega) (by have:=hc.1.2;omega)
  have hb:=below_new w (.cells (actB 1 id lane pass (.slice ea l.length ec)) 29)
  have hE:=law_edits l ea b off ec (w.alloc (.cells (actB 1 id lane pass (.slice ea l.length ec)) 29)) (λhp=>⟨(ha hp).1,Nat.lt_of_lt_of_le (ha hp).2 hb.size⟩) (λi hi=>ecell_alloc (h0 i hi) _) (λi hi=>ecell_alloc (h1 i hi) _) (λi hi=>ecell_alloc (h2 i hi) _) hl
  have hB:=Bx.new w (actB 1 id lane pass (.slice ea l.length ec)) 29
  have hS:Hid (∀w1,Below (w.alloc (.cells (actB 1 id lane pass (.slice ea l.length ec)) 29)).heap.size (w.alloc (.cells (actB 1 id lane pass (.slice ea l.length ec)) 29)) w1->∀es va vc,EditsOK es->w1.ownsRow (w.alloc (.cells (actB 1 id lane pass (.slice ea l.length ec)) 29)).heap.size 49 3 (.slice va es.length vc) es.length (es.flatMap cE)->w1.cell? ⟨pb,1,none⟩=some (.int .i64 c.lanes)/\
      Calls prog 21 #[.pointer (some ⟨pb,0,none⟩),.int .i64 (1+(z:Int)),.int .i64 y,.slice va es.length vc] w1.drew λe w'=>Acts w w' e U pb xb c σ):=by
    intro w1 hb1 es va vc hok hrow
    have hbd:Below w.heap.size w w1.drew:=drew_below (.one _ 1) (hb.trans (hb1.mono hb.size))
    refine⟨((h.later hbd).cell).2.1,?_⟩
    have ez:(1+(z:Int))=((1+z:Nat):Int):=by omega
    rw[ez]
    refine(acts_submit (1+z) y es va vc (h.later hbd) hG hc hn hk (by omega) ⟨by omega,by omega,by omega,by omega,hok⟩ ((EditsAt.of_row hrow).later (Drew.one _ 1).below) (ecap_row hrow) ?_).mono λe w' hA=>Acts.of_below hbd hA
    intro q hq hU
    have h3:=(hrow.lt q hq).1
    have h4:=h.lt q hU
    have h5:=hb.size
    omega
  clear hb h hG hc hn hk hid hln ha h0 h1 h2 hl
  generalize hW:w.alloc (.cells (actB 1 id lane pass (.slice ea l.length ec)) 29)=W at *
  have v0:=hB.c 0 (.int .i64 1)
  have v4:=hB.c 4 (.slice ea l.length ec)
  go_enter func18,ntmps18
  go_wp2_with fail
  go_fit hE
  rintro e w1 ⟨⟨es,va,vc,rfl,hok,hrow⟩,hb1⟩
  obtain⟨d0,hsub⟩:=hS.out w1 hb1 es va vc hok hrow
  have hB1:Bx w1 w.heap.size 29 (actB 1 id lane pass (.slice ea l.length ec)):=(hb1.block _ hB.lt).trans hB
  have x1:=hB1.c 1 (.int .i64 id)
  have x2:=hB1.c 2 (.int .i64 lane)
  clear hB1 hb1 hrow hok hE hS hB hW v0 v4
  go_upto_region 4 with fail
  refine still_tail 14 (by kernel_rfl) (by kernel_rfl) λops QQ hQQ=>?_
  simp only[List.take_succ_cons,List.take_zero]
  still_step
  still_step
  still_step
  still_call (hP _)
  still_step
  still_step
  still_step
  still_step
  still_step
  still_step
  still_step
  still_step
  still_call (hY _)
  still_step
  refine wpStill_nil ?_
  refine hQQ.out _ ?_
  clear hQQ hP hY
  have ew:IntKind.i64.wrap (1+(z:Int))=1+(z:Int):=wrap_i64 (by omega) (by omega)
  rw[ew]
  clear ew d0 x1 x2
  go_wp2_with fail
  go_fit hsub
  rintro e w2 hA
  have HA:Hid (Acts w w2 e U pb xb c σ):=hA
  obtain rfl:=hA.1
  clear hsub hA
  go_wp2_with fail
  go_ret
  exact HA.out
theorem law_act {U:Nat->Prop}{pb xb:Nat}{c:Cfg}{σ:Sg}{p:Pe}{w:World}(kind id lane:Int)(pass:Bool)(l:List Ed)(ea:Option Addr)(ec:Nat)(h:Pp w U pb xb c σ p)(hG:Gd c σ p)(hc:c.Ok)(hn:bud c σ+2<1048576)(hk:Kp p)(hid:-9223372036854775808<=id/\id<9223372036854775808)(hln:-9223372036854775808<=lane/\lane<9223372036854775808)(hE:EditsAt w (.slice ea l.length ec) l)(hl:l.length<8796093022208):
    Calls prog 18 #[.pointer (some ⟨pb,0,none⟩),.agg #[.int .i64 kind,.int .i64 id,.int .i64 lane,.bool pass,.slice ea l.length ec]] w λe w'=>Acts w w' e U pb xb c σ:=by
  have hkd:kind=1\/kind=2\/kind=3\/kind=4\/kind=5\/kind=6\/kind=9\/kind=10\/kind=11\/(kind≠1/\kind≠2/\kind≠3/\kind≠4/\kind≠5/\kind≠6/\kind≠9/\kind≠10/\kind≠11):=by omega
  rcases hkd with rfl|rfl|rfl|rfl|rfl|rfl|rfl|rfl|rfl|hkd
  · rcases hE with ⟨h0,_⟩|⟨b,off,cap,e,hb,e0,e1,e2⟩
    · subst h0
      exact act1 id lane pass [] ea 0 0 ec h hG hc hn hk hid hln (λhp=>absurd hp (Nat.lt_irrefl 0)) (λi hi=>absurd hi (Nat.not_lt_zero i)) (λi hi=>absurd hi (Nat.not_lt_zero i)) (λi hi=>absurd hi (Nat.not_lt_zero i)) (by decide)
    · cases e
      exact act1 id lane pass l _ b off ec h hG hc hn hk hid hln (λ_=>⟨rfl,hb⟩) e0 e1 e2 hl
  · exact act2 id lane pass ea l.length ec h hG hc hn hk hid
  · exact act3 id lane pass ea l.length ec h hG hc hn hk
  · exact act4 id lane pass ea l.length ec h hG hc hn hk hid
  · exact act5 id lane pass ea l.length ec h hG hc hn hk hid
  · exact act6 id lane pass ea l.length ec h hG hc hn hk hid
  · exact act9 id lane pass ea l.length ec h hG hc hn hk
  · exact act10 id lane pass ea l.length ec h hG hc hn hk
  · exact act11 id lane pass ea l.length ec h hG hc hn hk
  · exact actN kind id lane pass ea l.length ec h hG hk hkd
def fEd:Ed:=(⟨#[102,105,114,115,116]⟩,⟨#[]⟩,⟨#[49]⟩)
def fE:List Ed:=[fEd]
theorem fE_ok:EditsOK fE:=⟨by simp[fE],by simp[fE],λx hx=>by rw[List.mem_singleton.1 hx];simp only[okEd,okEdit,okFill,okText,Lib.toList_data,fEd];decide,by unfold Apart;simp[fE]⟩
def Sg.zero:Sg:=⟨[],true,[],false,0⟩
def Pe.zero:Pe:=⟨[],[],[],[],0,0⟩
theorem Sg.zero_ok (c:Cfg)(g:ByteArray->ByteArray):Sg.zero.Ok c g:=⟨.nil,torn_nil,λ_=>rfl,λh=>(by cases h)⟩
theorem zero_ts (c:Cfg):Sg.zero.ts c=Ts.start g0:=rfl
theorem zero_gd (c:Cfg):Gd c Sg.zero Pe.zero:=by
  refine⟨⟨Sg.zero_ok c g0,rfl,rfl,?_,?_,rfl,λk hk=>(by cases hk),Nat.zero_le _,λe he=>(by cases he)⟩,rfl,λx hx=>(by cases hx)⟩
  · rw[zero_ts]
    exact⟨List.nodup_nil,List.Perm.refl _,λx hx=>(by cases hx),λx hx=>(by cases hx),trivial,rfl,rfl,λe he=>(by cases he),List.nodup_nil⟩
  · rw[zero_ts]
    exact⟨rfl,rfl,λk hk=>(by cases hk),rfl,⟨_,Lists.nil,rfl⟩⟩
def fS1:Ts:=⟨[1000000],[⟨1000000,0,0,0,fE⟩],[],0,g0,[],[],0,0⟩
def fSm (j:Option Jb)(b:Nat):Sm:=⟨[(1000000,fE)],0,b,j⟩
def fS2 (c:Cfg):Ts:=⟨[1000000],[],[],0,g0,[],[fSm (some ⟨1,0+c.deadline,edited g0 fE⟩) 0],1,0⟩
def fS3:Ts:=⟨[1000000],[],[],0,g0,[],[fSm none 1],1,0⟩
def fS4:Ts:=⟨[1000000],[],[(1000000,1)],0,edited g0 fE,[(1,[1000000])],[],1,0⟩
theorem f_on:appOn g0 fE=true:=by
  rw[appOn_iff]
  intro e he
  rw[List.mem_singleton.1 he];rfl
theorem f_makes:makes g0 [(1000000,fE)]=(edited g0 fE,1):=by
  unfold makes
  rw[if_pos f_on]
  rfl
theorem f_pump1 (c:Cfg)(hc:c.Ok):fS1.pump c=fS2 c:=by
  obtain⟨b,hb⟩:∃b,c.batch=b+1:=⟨c.batch-1,by have:=hc.2.2.1.1;omega⟩
  obtain⟨v,hv⟩:∃v,c.window=v+1:=⟨c.window-1,by have:=hc.2.2.2.1.1;omega⟩
  have hr:(fS1.ranked c)=[⟨1000000,0,0,0,fE⟩]:=by
    unfold Ts.ranked rkG laneC
    simp[fS1,List.range_succ]
  have h1:fS1.step c=some ⟨[1000000],[],[],0,g0,[],[fSm none 0],0,0⟩:=by
    show some (fS1.pick c)=_
    unfold Ts.pick
    rw[hr,hb]
    simp[fS1,Ch.cg,Sm.new,fSm]
  have h2:Ts.step c ⟨[1000000],[],[],0,g0,[],[fSm none 0],0,0⟩=none:=by
    unfold Ts.step
    simp[fSm,f_makes]
  have h3:fS1.mu=2+1:=by simp[Ts.mu,fS1]
  unfold Ts.pump
  rw[h3]
  unfold Ts.run
  rw[h1]
  show Ts.begin c (Ts.run c 2 ⟨[1000000],[],[],0,g0,[],[fSm none 0],0,0⟩)=_
  unfold Ts.run
  rw[h2]
  show Ts.begin c ⟨[1000000],[],[],0,g0,[],[fSm none 0],0,0⟩=_
  unfold Ts.begin
  rw[hv]
  cases v<;>simp[begins,fSm,f_makes,fS2]
theorem f_jobs (c:Cfg){y:Jbt}(hy:y∈(fS2 c).jobs):y.1=1:=by
  unfold Ts.jobs rkG at hy
  simp[fS2,jobsOf,fSm,List.range_succ] at hy
  rw[hy]
theorem f_jobs0 (c:Cfg):(fS2 c).jobs≠[]:=by
  unfold Ts.jobs rkG
  simp[fS2,jobsOf,fSm,List.range_succ]
theorem f_answer (c:Cfg):(fS2 c).answer 1 true=fS3:=by
  simp[Ts.answer,fS2,fS3,fSm,Sm.runs,Sm.ends]
theorem f_pump2 (c:Cfg):fS3.pump c=fS4:=by
  have h1:fS3.step c=some fS4:=by
    unfold Ts.step
    simp[fS3,fSm,f_makes,Ts.land,fS4]
  have h3:fS3.mu=0+1:=by simp[Ts.mu,fS3,fSm]
  unfold Ts.pump
  rw[h3]
  unfold Ts.run
  rw[h1]
  show Ts.begin c fS4=_
  unfold Ts.begin
  cases hw:c.window<;>simp[begins,fS4]
theorem f_end {c:Cfg}{σ:Sg}{p:Pe}(hG:Gd c σ p)(h:σ.ts c={fS4 with acked:=1}):p.landed.length=1/\p.tip.length=1:=by
  have hd:=hG.g.pos.done hG.g.ev hG.dr
  rw[h] at hd
  obtain⟨h1,h2⟩:=hd
  refine⟨by rw[h2];rfl,?_⟩
  have h3:=(h1.alike (Lists.made Lists.nil fE))
  unfold alikeL at h3
  rw[Bool.and_eq_true,beq_iff_eq] at h3
  rw[h3.1]
  simp[withL,fE,withOne,but,fEd]
end Go.Proofs.YtgamgomepdfgdaaGreat
