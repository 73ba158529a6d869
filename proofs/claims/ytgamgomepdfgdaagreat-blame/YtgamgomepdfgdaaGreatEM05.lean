import Derived.Deep.CutRange
import Derived.Deep.CutBlock
import Derived.Lib.AppendStr
import Derived.Test.YtgamgomepdfgdaaGreatEM01
set_option maxRecDepth 100000
set_option maxHeartbeats 8000000
namespace Go.Proofs.YtgamgomepdfgdaaGreat
open Go.RowKit Go.Proofs.Tryz
theorem below_then {w w1 w2:World}(h:Below w.heap.size w w1)(h2:Below w1.heap.size w1 w2):Below w.heap.size w w2:=h.trans (h2.mono h.size)
theorem txt_len (s:ByteArray):(txt s).length=s.size+1:=by
  rw[txt,List.length_append,be_len];simp;omega
theorem edB_len (e:Ed):(edB e).length=e.1.size+e.2.1.size+e.2.2.size+3:=by
  rw[edB,List.length_append,List.length_append,txt_len,txt_len,txt_len];omega
def Small (es:List Ed):Prop:=es.length<=4/\∀x∈es,x.1.size<=8/\x.2.1.size<=8/\x.2.2.size<=8
theorem flat_small:∀(es:List Ed),(∀x∈es,x.1.size<=8/\x.2.1.size<=8/\x.2.2.size<=8)->(es.flatMap edB).length<=es.length*27
  |[],_=>by simp
  |e::es,h=>by
    have h1:=h e (by simp)
    have h2:=flat_small es λx hx=>h x (by simp[hx])
    rw[List.flatMap_cons,List.length_append,edB_len,List.length_cons]
    omega
def subB (lane:Nat)(es:List Ed)(k:Nat):List UInt8:=be 1 lane++be 1 es.length++(es.take k).flatMap edB
theorem subB_len {es:List Ed}(h:Small es)(lane k:Nat):(subB lane es k).length<=110:=by
  have h1:=flat_small (es.take k) λx hx=>h.2 x (List.mem_of_mem_take hx)
  have h2:=h.1
  rw[List.length_take] at h1
  rw[subB,List.length_append,List.length_append,be_len,be_len]
  omega
theorem run_string_at {P:Program}(w:World)(base:Nat)(t u ty e:TypeId)(i:TypeInfo)(ht:P.underlying t=some (.slice e))(hu:P.underlying u=some .string)(hi:P.info? e=some i)(hz:i.zero=some (.int .u8 0))(hsize:i.size=1)(hby:i.bytes=1)(v:Value)(n:Nat)(xs:List Value)(hown:w.ownsRow base e 1 v n xs)(s:ByteArray)(h63:n+s.size<=maxLen)(hbytes:n+s.size<=140737488355328)(hbase:base<=w.heap.size):
    ∃v' w',(Builtin.append_ #[t,u] ty #[v,.string s]).run P w=.ok v' w'/\w'.ownsRow base e 1 v' (n+s.size) (xs++Lib.strCells s)/\w.grownBy w' v.ownBlock/\(v'.ownBlock=v.ownBlock\/v'.ownBlock=some w.heap.size):=by
  obtain⟨v',w',hr,h2,h3,h4⟩:=Lib.run_append_own_string (P:=P) w base t u ty e i ht hu hi hz hsize hby v n xs hown s h63 hbytes hbase
  refine⟨v',w',hr,h2,h3,?_⟩
  have hsmall:n+s.size<=9223372036854775807:=by omega
  rcases hown.2 with ⟨rfl,rfl⟩|⟨g,cap,cur,rfl,hbg,hg,hnc,hcm,hcs,htake⟩
  · by_cases hm:s.size=0
    · rw[h4.2 ⟨rfl,hm⟩];exact .inl rfl
    · have hr2:=run_append_nil_string (P:=P) w t u ty e i (.int .u8 0) ht hu hi hz s (by omega) (by omega) (by rw[hby];omega)
      rw[hr] at hr2
      cases hr2
      exact .inr rfl
  · by_cases hroom:n+s.size<=cap
    · have hr2:=Lib.run_append_room_string (P:=P) w t u ty e i ht hu hi hsize g n cap cur hg s hroom (by omega)
      rw[hr] at hr2
      cases hr2
      exact .inl rfl
    · have hxl:xs.length=n:=by simpa using hown.1
      have hr2:=Lib.run_append_grow_string (P:=P) w t u ty e i (.int .u8 0) ht hu hi hz ⟨g,0,none⟩ n cap xs (by rw[hsize];simpa using hxl) (hown.cells (g:=g) rfl) s (by omega) (by omega) (by rw[hby];exact growslice_fits (by omega) (by omega))
      rw[hr] at hr2
      cases hr2
      exact .inr rfl
theorem wpList_string_at {P:Program}(w:World){ops:Array Oper}{rest:List Oper}{o:Oper}{a:Act}{Q:Exit->Act->World->Prop}(hgd:o.guard=none)(sl x:Operand)(t u:TypeId)(ho:o.op=.call {callee:=.builtin .append,args:=#[sl,x],argTypes:=#[t,u]})(base:Nat)(e:TypeId)(i:TypeInfo)(ht:P.underlying t=some (.slice e))(hu:P.underlying u=some .string)(hi:P.info? e=some i)(hz:i.zero=some (.int .u8 0))(hsize:i.size=1)(hby:i.bytes=1)(v:Value)(n:Nat)(xs:List Value)(hs:a.eval sl=v)(hown:w.ownsRow base e 1 v n xs)(s:ByteArray)(hx:a.eval x=.string s)(h63:n+s.size<=maxLen)(hbytes:n+s.size<=140737488355328)(hbase:base<=w.heap.size)(h:∀v' w',w'.ownsRow base e 1 v' (n+s.size) (xs++Lib.strCells s)->w.grownBy w' v.ownBlock->(v'.ownBlock=v.ownBlock\/v'.ownBlock=some w.heap.size)->wpList P ops Q rest (a.put o.dst v') w'):wpList P ops Q (o::rest) a w:=by
  refine wpList_plain hgd λK hK=>?_
  obtain⟨v',w',hr,h2,h3,h4⟩:=run_string_at (P:=P) w base t u o.type e i ht hu hi hz hsize hby v n xs hown s h63 hbytes hbase
  unfold Oper.wp execOp
  simp only[ho,resolve,invoke,builtin,Sem.run_bind,Sem.run_pure,Result.andThen_ok,List.map_toArray,List.map_cons,List.map_nil,hs,hx,hr]
  exact hK _ _ (h v' w' h2 h3 h4)
abbrev App (base:Nat)(w w':World)(v v':Value)(l:List UInt8):Prop:=Apped base w w' v v' l.length (bc l)
theorem Apped.trans {base:Nat}{w w1 w2:World}{v v1 v2:Value}{n m:Nat}{xs ys:List Value}(h:Apped base w w1 v v1 n xs)(h2:Apped base w1 w2 v1 v2 m ys):Apped base w w2 v v2 m ys:=by
  have hs:=h.grown.size
  refine⟨h2.row,⟨h2.grown.os.trans h.grown.os,h2.grown.tape.trans h.grown.tape,h2.grown.output.trans h.grown.output,Nat.le_trans hs h2.grown.size,λk hk hne=>?_⟩,?_⟩
  · rw[h2.grown.block k (Nat.lt_of_lt_of_le hk hs) (λe=>?_),h.grown.block k hk hne]
    rcases h.block with h1|⟨g,h1,h3⟩
    · exact hne (by rw[e,h1])
    · rw[h1] at e;cases e;omega
  · rcases h2.block with hb|⟨g,hb,hg⟩
    · rw[hb];exact h.block
    · exact .inr ⟨g,hb,Nat.le_trans hs hg⟩
theorem Apped.keeps {base:Nat}{w w':World}{v v':Value}{n:Nat}{xs:List Value}(h:Apped base w w' v v' n xs){b o:Nat}{u:Value}(hc:w.cell? ⟨b,o,none⟩=some u)(hne:v.ownBlock≠some b):w'.cell? ⟨b,o,none⟩=some u:=
  h.grown.cell hc (λe=>hne e.symm)
theorem Apped.apart {base:Nat}{w w':World}{v v':Value}{n:Nat}{xs:List Value}(h:Apped base w w' v v' n xs){b:Nat}(hb:b<w.heap.size)(hne:v.ownBlock≠some b):v'.ownBlock≠some b:=by
  rcases h.block with h1|⟨g,h1,h2⟩
  · rw[h1];exact hne
  · rw[h1];intro e;cases e;omega
theorem app8' (n:Nat)(hn:n<256)(v:Value)(l:List UInt8)(base:Nat)(w:World)(h:w.ownsRow base 5 1 v l.length (bc l))(hbase:base<=w.heap.size)(hlen:l.length<1099511627776):
    Calls prog 160 #[v,.int .u8 n] w λe w'=>∃v',e=.returned v'/\App base w w' v v' (l++be 1 n):=
  (app8 n hn v l base w h hbase hlen).mono λe w' ⟨v',he,ha⟩=>⟨v',he,by
    show Apped base w w' v v' (l++be 1 n).length _
    rw[List.length_append,be_len];exact ha⟩
theorem app32' (n:Nat)(v:Value)(l:List UInt8)(base:Nat)(w:World)(h:w.ownsRow base 5 1 v l.length (bc l))(hbase:base<=w.heap.size)(hlen:l.length<1099511627776):
    Calls prog 161 #[v,.int .u32 n] w λe w'=>∃v',e=.returned v'/\App base w w' v v' (l++be 4 n):=
  (app32 n v l base w h hbase hlen).mono λe w' ⟨v',he,ha⟩=>⟨v',he,by
    show Apped base w w' v v' (l++be 4 n).length _
    rw[List.length_append,be_len];exact ha⟩
theorem app64' (n:Nat)(v:Value)(l:List UInt8)(base:Nat)(w:World)(h:w.ownsRow base 5 1 v l.length (bc l))(hbase:base<=w.heap.size)(hlen:l.length<1099511627776):
    Calls prog 198 #[v,.int .i64 n] w λe w'=>∃v',e=.returned v'/\App base w w' v v' (l++be 8 n):=
  (app64 n v l base w h hbase hlen).mono λe w' ⟨v',he,ha⟩=>⟨v',he,by
    show Apped base w w' v v' (l++be 8 n).length _
    rw[List.length_append,be_len];exact ha⟩
theorem strCells_eq (s:ByteArray):Lib.strCells s=bc s.data.toList:=by
  simp[Lib.strCells,bc]
theorem appText (s:ByteArray)(hs:s.size<256)(v:Value)(l:List UInt8)(base:Nat)(w:World)(h:w.ownsRow base 5 1 v l.length (bc l))(hbase:base<=w.heap.size)(hlen:l.length<1099511627000):
    Calls prog 237 #[v,.string s] w λe w'=>∃v',e=.returned v'/\App base w w' v v' (l++txt s):=by
  obtain⟨i0,hi,hz0,hz1,hz2⟩:=info_parts info_u8
  have hc:=app8' s.size hs v l base w h hbase (by omega)
  have hm:(s.size:Int)%256=s.size:=by omega
  have q1:Hid (l.length+1+s.size<=maxLen):=by show _<=_;unfold maxLen;omega
  have q2:Hid (l.length+1+s.size<=140737488355328):=by show _<=_;omega
  have hl1:(l++be 1 s.size).length=l.length+1:=by rw[List.length_append,be_len]
  clear h hs
  go_enter func237,ntmps237
  go_wp2_with (first
    |(go_at_call 160;go_fit hc;rintro e w1 ⟨v1,rfl,h1⟩;have H1:Hid (App base w w1 v v1 (l++be 1 s.size)):=h1;clear h1)
    |(at_builtin;refine wpList_string_at _ rfl _ _ _ _ rfl base _ i0 underlying114 underlying9 hi hz0 hz1 hz2 v1 _ _ rfl (Apped.row H1.out) s rfl (by rw[hl1];exact q1.out) (by rw[hl1];exact q2.out) (Nat.le_trans hbase (Apped.grown H1.out).size) ?_;intro v2 w2 hown2 hg2 hloc2))
  go_ret
  refine⟨v2,rfl,Apped.trans H1.out ⟨?_,hg2,?_⟩⟩
  · have e:l++txt s=l++be 1 s.size++s.data.toList:=by rw[txt,List.append_assoc]
    rw[e,bc_append,<-strCells_eq]
    have e2:(l++be 1 s.size++s.data.toList).length=(l++be 1 s.size).length+s.size:=by rw[List.length_append];simp
    rw[e2]
    exact hown2
  · rcases hloc2 with h|h
    · exact .inl h
    · exact .inr ⟨_,h,Nat.le_refl _⟩
def val (l:List UInt8):Nat:=l.foldl (λn b=>n*256+b.toNat) 0
theorem val_snoc (l:List UInt8)(b:UInt8):val (l++[b])=val l*256+b.toNat:=by simp[val]
theorem val_take {l:List UInt8}{i:Nat}(h:i<l.length):val (l.take (i+1))=val (l.take i)*256+l[i].toNat:=by
  rw[List.take_succ_eq_append_getElem h,val_snoc]
theorem val_lt:∀(k:Nat) (l:List UInt8),l.length=k->val l<256^k
  |0,l,h=>by rw[List.length_eq_zero_iff.1 h];decide
  |k+1,l,h=>by
    rcases List.eq_nil_or_concat l with rfl|⟨m,x,rfl⟩
    · simp at h
    · rw[List.concat_eq_append] at h ⊢
      have:=val_lt k m (by simpa using h)
      have hx:=x.toNat_lt
      rw[val_snoc,Nat.pow_succ];omega
theorem val_be:∀(k n:Nat),val (be k n)=n%256^k
  |0,n=>by simp[be,val,Nat.mod_one]
  |k+1,n=>by
    have e1:(UInt8.ofNat (n%256)).toNat=n%256:=by rw[UInt8.toNat_ofNat'];omega
    rw[be_succ,val_snoc,val_be k,e1,Nat.pow_succ,Nat.mul_comm (256^k) 256,Nat.mod_mul]
    omega
theorem or_byte {x:Int}{b:UInt8}(h:0<=x)(h':x<72057594037927936):bits .or .u64 (x*256) (b.toNat:Int)=x*256+b.toNat:=by
  have hb:=b.toNat_lt
  exact bits_join .u64 64 (by decide) wraps_u64 8 _ _ (by omega) (by omega) (by omega) (by omega) (by omega) (by omega)
def Read (x:Nat)(w w':World)(cb:Nat)(v:Value)(sh:Bool)(R:List UInt8)(k:Nat):Prop:=
  ((k<=R.length/\x=val (R.take k)/\∃v',Cur w' cb v' sh/\BV w' v' (R.drop k)/\v'.ownBlock=v.ownBlock)\/(R.length<k/\x=0/\Cur w' cb v true/\BV w' v R))/\w.grownBy w' (some cb)
theorem num8 (cb:Nat)(v:Value)(sh:Bool)(R:List UInt8)(w:World)(hC:Cur w cb v sh)(hV:BV w v R):
    Calls prog 163 #[.pointer (some ⟨cb,0,none⟩)] w λe w'=>∃x:Nat,e=.returned (.int .u8 x)/\Read x w w' cb v sh R 1:=by
  have hT:=take_any cb 1 v sh R w hC hV (by decide)
  clear hC hV
  go_enter func163,ntmps163
  go_wp2_with (first
    |(go_at_call 200;go_fit (bits8 _);rintro e w' ⟨rfl,rfl⟩)
    |fail)
  refine hT.mono ?_
  rintro e w1 ⟨hk,hg⟩
  rcases hk with ⟨hle,u,v',rfl,hC',hU,hV',_,ho'⟩|⟨hlt,rfl,hC',hV'⟩
  · have HR:Hid (Read (val (R.take 1)) w w1 cb v sh R 1):=⟨.inl ⟨hle,rfl,v',hC',hV',ho'⟩,hg⟩
    have hlK:(R.take 1).length=1:=by rw[List.length_take,Nat.min_eq_left hle]
    generalize R.take 1=L at hU hlK HR
    obtain⟨g,off,cap,rfl,h5⟩:∃g off cap,u=.slice (some ⟨g,off,none⟩) 1 cap/\∀i (h:i<L.length),w1.cell? ⟨g,off+i,none⟩=some (.int .u8 L[i].toNat):=by
      rcases hU with ⟨rfl,_⟩|⟨g,off,cap,h1,_,_,_,h5⟩
      · simp at hlK
      · exact⟨g,off,cap,by rw[h1,hlK],h5⟩
    clear hC' hV' hg hT hU hle ho'
    go_wp2_with fail
    go_loop [3,5,12] (λn _ i=>∃k:Nat,k<=1/\i=.int .i64 k/\n=.int .u64 (val (L.take k))) (λ_ _ i=>1-(intOf i).toNat)
    case atStart=>exact⟨0,by omega,rfl,rfl⟩
    case round=>
      obtain⟨k,hk,rfl,rfl⟩:=hrel
      by_cases hlk:k<1
      · have hc:=h5 k (by omega)
        have he:=val_take (l:=L) (i:=k) (by omega)
        have hv:=val_lt k (L.take k) (by rw[List.length_take];omega)
        have hp:256^k<=256^7:=Nat.pow_le_pow_right (by decide) (by omega)
        have hx:val (L.take k)<72057594037927936:=Nat.lt_of_lt_of_le hv hp
        generalize L[k]'(by omega)=b at hc he
        generalize val (L.take k)=x at he hx hv
        have HE:Hid (val (L.take (k+1))=x*256+b.toNat):=he
        have hor:=or_byte (x:=(x:Int)) (b:=b) (by omega) (by omega)
        clear he hv hp h5
        go_wp2
        refine⟨⟨k+1,hlk,by go_num,?_⟩,by simp[intOf];omega⟩
        rw[HE.out];simp
        rw[wrap_u64 (by omega) (by have:=b.toNat_lt;omega)];exact hor
      · obtain rfl:k=1:=by omega
        have e:L.take 1=L:=List.take_of_length_le (by omega)
        have hv:=val_lt 1 L hlK
        rw[e]
        generalize val L=x at hv HR
        go_wp2
        go_ret
        exact⟨x,rfl,HR.out⟩
  · have HR:Hid (Read 0 w w1 cb v sh R 1):=⟨.inr ⟨hlt,rfl,hC',hV'⟩,hg⟩
    clear hC' hV' hg hT
    go_wp2_with fail
    go_loop [3,5,12] (λn _ i=>n=.int .u64 0/\i=.int .i64 0) (λ_ _ _=>0)
    case atStart=>exact⟨rfl,rfl⟩
    case round=>
      obtain⟨rfl,rfl⟩:=hrel
      go_wp2
      go_ret
      exact⟨0,rfl,HR.out⟩
theorem num32 (cb:Nat)(v:Value)(sh:Bool)(R:List UInt8)(w:World)(hC:Cur w cb v sh)(hV:BV w v R):
    Calls prog 164 #[.pointer (some ⟨cb,0,none⟩)] w λe w'=>∃x:Nat,e=.returned (.int .u32 x)/\Read x w w' cb v sh R 4:=by
  have hT:=take_any cb 4 v sh R w hC hV (by decide)
  clear hC hV
  go_enter func164,ntmps164
  go_wp2_with (first
    |(go_at_call 201;go_fit (bits32 _);rintro e w' ⟨rfl,rfl⟩)
    |fail)
  refine hT.mono ?_
  rintro e w1 ⟨hk,hg⟩
  rcases hk with ⟨hle,u,v',rfl,hC',hU,hV',_,ho'⟩|⟨hlt,rfl,hC',hV'⟩
  · have HR:Hid (Read (val (R.take 4)) w w1 cb v sh R 4):=⟨.inl ⟨hle,rfl,v',hC',hV',ho'⟩,hg⟩
    have hlK:(R.take 4).length=4:=by rw[List.length_take,Nat.min_eq_left hle]
    generalize R.take 4=L at hU hlK HR
    obtain⟨g,off,cap,rfl,h5⟩:∃g off cap,u=.slice (some ⟨g,off,none⟩) 4 cap/\∀i (h:i<L.length),w1.cell? ⟨g,off+i,none⟩=some (.int .u8 L[i].toNat):=by
      rcases hU with ⟨rfl,_⟩|⟨g,off,cap,h1,_,_,_,h5⟩
      · simp at hlK
      · exact⟨g,off,cap,by rw[h1,hlK],h5⟩
    clear hC' hV' hg hT hU hle ho'
    go_wp2_with fail
    go_loop [3,5,12] (λn _ i=>∃k:Nat,k<=4/\i=.int .i64 k/\n=.int .u64 (val (L.take k))) (λ_ _ i=>4-(intOf i).toNat)
    case atStart=>exact⟨0,by omega,rfl,rfl⟩
    case round=>
      obtain⟨k,hk,rfl,rfl⟩:=hrel
      by_cases hlk:k<4
      · have hc:=h5 k (by omega)
        have he:=val_take (l:=L) (i:=k) (by omega)
        have hv:=val_lt k (L.take k) (by rw[List.length_take];omega)
        have hp:256^k<=256^7:=Nat.pow_le_pow_right (by decide) (by omega)
        have hx:val (L.take k)<72057594037927936:=Nat.lt_of_lt_of_le hv hp
        generalize L[k]'(by omega)=b at hc he
        generalize val (L.take k)=x at he hx hv
        have HE:Hid (val (L.take (k+1))=x*256+b.toNat):=he
        have hor:=or_byte (x:=(x:Int)) (b:=b) (by omega) (by omega)
        clear he hv hp h5
        go_wp2
        refine⟨⟨k+1,hlk,by go_num,?_⟩,by simp[intOf];omega⟩
        rw[HE.out];simp
        rw[wrap_u64 (by omega) (by have:=b.toNat_lt;omega)];exact hor
      · obtain rfl:k=4:=by omega
        have e:L.take 4=L:=List.take_of_length_le (by omega)
        have hv:=val_lt 4 L hlK
        rw[e]
        generalize val L=x at hv HR
        go_wp2
        go_ret
        exact⟨x,rfl,HR.out⟩
  · have HR:Hid (Read 0 w w1 cb v sh R 4):=⟨.inr ⟨hlt,rfl,hC',hV'⟩,hg⟩
    clear hC' hV' hg hT
    go_wp2_with fail
    go_loop [3,5,12] (λn _ i=>n=.int .u64 0/\i=.int .i64 0) (λ_ _ _=>0)
    case atStart=>exact⟨rfl,rfl⟩
    case round=>
      obtain⟨rfl,rfl⟩:=hrel
      go_wp2
      go_ret
      exact⟨0,rfl,HR.out⟩
theorem num64 (cb:Nat)(v:Value)(sh:Bool)(R:List UInt8)(w:World)(hC:Cur w cb v sh)(hV:BV w v R)(hx:val (R.take 8)<9223372036854775808):
    Calls prog 203 #[.pointer (some ⟨cb,0,none⟩)] w λe w'=>∃x:Nat,e=.returned (.int .i64 x)/\Read x w w' cb v sh R 8:=by
  have hT:=take_any cb 8 v sh R w hC hV (by decide)
  clear hC hV
  go_enter func203,ntmps203
  go_wp2_with (first
    |(go_at_call 238;go_fit (bits64 _);rintro e w' ⟨rfl,rfl⟩)
    |fail)
  refine hT.mono ?_
  rintro e w1 ⟨hk,hg⟩
  rcases hk with ⟨hle,u,v',rfl,hC',hU,hV',_,ho'⟩|⟨hlt,rfl,hC',hV'⟩
  · have HR:Hid (Read (val (R.take 8)) w w1 cb v sh R 8):=⟨.inl ⟨hle,rfl,v',hC',hV',ho'⟩,hg⟩
    have hlK:(R.take 8).length=8:=by rw[List.length_take,Nat.min_eq_left hle]
    generalize R.take 8=L at hU hlK HR hx
    obtain⟨g,off,cap,rfl,h5⟩:∃g off cap,u=.slice (some ⟨g,off,none⟩) 8 cap/\∀i (h:i<L.length),w1.cell? ⟨g,off+i,none⟩=some (.int .u8 L[i].toNat):=by
      rcases hU with ⟨rfl,_⟩|⟨g,off,cap,h1,_,_,_,h5⟩
      · simp at hlK
      · exact⟨g,off,cap,by rw[h1,hlK],h5⟩
    clear hC' hV' hg hT hU hle ho'
    go_wp2_with fail
    go_loop [3,5,12] (λn _ i=>∃k:Nat,k<=8/\i=.int .i64 k/\n=.int .u64 (val (L.take k))) (λ_ _ i=>8-(intOf i).toNat)
    case atStart=>exact⟨0,by omega,rfl,rfl⟩
    case round=>
      obtain⟨k,hk,rfl,rfl⟩:=hrel
      by_cases hlk:k<8
      · have hc:=h5 k (by omega)
        have he:=val_take (l:=L) (i:=k) (by omega)
        have hv:=val_lt k (L.take k) (by rw[List.length_take];omega)
        have hp:256^k<=256^7:=Nat.pow_le_pow_right (by decide) (by omega)
        have hx:val (L.take k)<72057594037927936:=Nat.lt_of_lt_of_le hv hp
        generalize L[k]'(by omega)=b at hc he
        generalize val (L.take k)=x at he hx hv
        have HE:Hid (val (L.take (k+1))=x*256+b.toNat):=he
        have hor:=or_byte (x:=(x:Int)) (b:=b) (by omega) (by omega)
        clear he hv hp h5
        go_wp2
        refine⟨⟨k+1,hlk,by go_num,?_⟩,by simp[intOf];omega⟩
        rw[HE.out];simp
        rw[wrap_u64 (by omega) (by have:=b.toNat_lt;omega)];exact hor
      · obtain rfl:k=8:=by omega
        have e:L.take 8=L:=List.take_of_length_le (by omega)
        have hv:=val_lt 8 L hlK
        rw[e]
        generalize val L=x at hv HR hx
        have hm:wrap64 (x:Int)=x:=by unfold wrap64;omega
        go_wp2
        go_ret
        exact⟨x,rfl,HR.out⟩
  · have HR:Hid (Read 0 w w1 cb v sh R 8):=⟨.inr ⟨hlt,rfl,hC',hV'⟩,hg⟩
    clear hC' hV' hg hT hx
    go_wp2_with fail
    go_loop [3,5,12] (λn _ i=>n=.int .u64 0/\i=.int .i64 0) (λ_ _ _=>0)
    case atStart=>exact⟨rfl,rfl⟩
    case round=>
      obtain⟨rfl,rfl⟩:=hrel
      go_wp2
      go_ret
      exact⟨0,rfl,HR.out⟩
def edsB (es:List Ed)(k:Nat):List UInt8:=be 1 es.length++(es.take k).flatMap edB
theorem edsB_succ {es:List Ed}{k:Nat}(hk:k<es.length):edsB es (k+1)=edsB es k++txt es[k].1++txt es[k].2.1++txt es[k].2.2:=by
  rw[edsB,edsB,List.take_succ_eq_append_getElem hk,List.flatMap_append]
  simp[edB,List.append_assoc]
theorem edsB_len {es:List Ed}(h:Small es)(k:Nat):(edsB es k).length<=109:=by
  have h1:=flat_small (es.take k) λx hx=>h.2 x (List.mem_of_mem_take hx)
  have h2:=h.1
  rw[List.length_take] at h1
  rw[edsB,List.length_append,be_len]
  omega
theorem Apped.alloc {base:Nat}{w wr:World}{v v':Value}{n:Nat}{xs:List Value}(h:Apped base w wr v v' n xs)(o:Obj):Apped base w (wr.alloc o) v v' n xs:=by
  have ha:=World.grownBy_alloc wr o none
  exact⟨h.row.alloc o,⟨ha.os.trans h.grown.os,ha.tape.trans h.grown.tape,ha.output.trans h.grown.output,Nat.le_trans h.grown.size ha.size,λk hk hne=>(ha.block k (Nat.lt_of_lt_of_le hk h.grown.size) (by simp)).trans (h.grown.block k hk hne)⟩,h.block⟩
theorem row_ne {w:World}{base:Nat}{e:TypeId}{size n:Nat}{v:Value}{xs:List Value}(h:w.ownsRow base e size v n xs){b:Nat}(hb:b<base\/w.heap.size<=b):v.ownBlock≠some b:=λe=>by
  have:=h.lt b e
  omega
def TextTo (base:Nat)(p:ByteArray)(X Y:List UInt8):Prop:=∀(v:Value) (w:World),w.ownsRow base 5 1 v X.length (bc X)->base<=w.heap.size->
  Calls prog 237 #[v,.string p] w λe w'=>∃v',e=.returned v'/\App base w w' v v' Y
theorem textTo {base:Nat}{p:ByteArray}{X Y:List UInt8}(h:Y=X++txt p)(hp:p.size<256)(hX:X.length<1099511627000):TextTo base p X Y:=λv w hr hb=>by
  subst h;exact appText p hp v X base w hr hb hX
theorem appEdits (es:List Ed)(hsm:Small es)(b off cap:Nat)(v:Value)(l:List UInt8)(base:Nat)(w:World)(h:w.ownsRow base 5 1 v l.length (bc l))(hbase:base<=w.heap.size)(hlt:b<base)(h0:∀i (h:i<es.length),w.cell? ⟨b,off+i*3,none⟩=some (.string es[i].1))(h1:∀i (h:i<es.length),w.cell? ⟨b,off+i*3+1,none⟩=some (.string es[i].2.1))(h2:∀i (h:i<es.length),w.cell? ⟨b,off+i*3+2,none⟩=some (.string es[i].2.2))(hlen:l.length<1099511000000):
    Calls prog 197 #[v,.slice (some ⟨b,off,none⟩) es.length cap] w λe w'=>∃v',e=.returned v'/\App base w w' v v' (l++edsB es es.length):=by
  have hl4:=hsm.1
  have hc:=app8' es.length (by omega) v l base w h hbase (by omega)
  have hm:(es.length:Int)%256=es.length:=by omega
  have hvb:v.ownBlock≠some b:=row_ne h (.inl hlt)
  clear h
  go_enter func197,ntmps197
  go_wp2_with (go_at_call 160;go_fit hc;rintro e w1 ⟨v1,rfl,hA⟩)
  have HA:Hid (App base w w1 v v1 (l++edsB es 0)):=by
    show App base w w1 v v1 (l++edsB es 0)
    rw[edsB];simpa using hA
  clear hA hc
  go_loopw [0,6,14] (λbv _ iv wr=>∃k:Nat,k<=es.length/\iv=.int .i64 k/\Hid (App base w wr v bv (l++edsB es k))) (λ_ _ i _=>es.length-(intOf i).toNat)
  case atStart=>exact⟨0,Nat.zero_le _,rfl,HA⟩
  case round=>
    obtain⟨k,hk,rfl,hA⟩:=hrel
    clear HA
    by_cases hlk:k<es.length
    · have hwr:=Nat.le_trans hbase (Apped.grown hA.out).size
      have g0:=Apped.keeps hA.out (h0 k hlk) hvb
      have g1:=Apped.keeps hA.out (h1 k hlk) hvb
      have g2:=Apped.keeps hA.out (h2 k hlk) hvb
      obtain⟨y0,y1,y2⟩:=hsm.2 _ (List.getElem_mem hlk)
      have hel:=edsB_len hsm k
      have hsc:=edsB_succ hlk
      generalize hNe:edsB es (k+1)=N at hsc
      have HN:Hid (edsB es (k+1)=N):=hNe
      clear hNe h0 h1 h2
      generalize edsB es k=M at hA hel hsc
      generalize es[k].1=p at g0 y0 hsc
      generalize es[k].2.1=o at g1 y1 hsc
      generalize es[k].2.2=n at g2 y2 hsc
      obtain⟨X0,hX0⟩:∃X,X=l++M:=⟨_,rfl⟩
      obtain⟨X1,hX1⟩:∃X,X=X0++txt p:=⟨_,rfl⟩
      obtain⟨X2,hX2⟩:∃X,X=X1++txt o:=⟨_,rfl⟩
      have hX3:l++N=X2++txt n:=by rw[hX2,hX1,hX0,hsc];simp[List.append_assoc]
      have L0:X0.length=l.length+M.length:=by rw[hX0,List.length_append]
      have L1:X1.length=X0.length+(p.size+1):=by rw[hX1,List.length_append,txt_len]
      have L2:X2.length=X1.length+(o.size+1):=by rw[hX2,List.length_append,txt_len]
      have T1:Hid (TextTo base p X0 X1):=textTo hX1 (by omega) (by omega)
      have T2:Hid (TextTo base o X1 X2):=textTo hX2 (by omega) (by omega)
      have T3:Hid (TextTo base n X2 (l++N)):=textTo hX3 (by omega) (by omega)
      rw[<-hX0] at hA
      have R0:Hid (∀ob,(wr.alloc ob).ownsRow base 5 1 u0 X0.length (bc X0)):=λob=>World.ownsRow.alloc (Apped.row hA.out) ob
      have N0:Hid (u0.ownBlock≠some wr.heap.size):=row_ne (Apped.row hA.out) (.inr (Nat.le_refl _))
      have B0:Hid (∀ob,base<=(wr.alloc ob).heap.size/\wr.heap.size<(wr.alloc ob).heap.size):=λob=>by
        show base<=_/\wr.heap.size<_
        simp;omega
      have A0:Hid (∀ob,App base w (wr.alloc ob) v u0 X0):=λob=>Apped.alloc hA.out ob
      clear hA hX0 hX1 hX2 hX3 hsc L0 L1 L2 hel
      go_wp2_with (first
        |(go_at_call 237;go_fit (T1.out u0 (wr.alloc _) (R0.out _) (B0.out _).1);rintro e w3 ⟨v3,rfl,h3⟩;have c1:w3.cell? ⟨wr.heap.size,1,none⟩=some (.string o):=Apped.keeps h3 (by simp) N0.out;have c2:w3.cell? ⟨wr.heap.size,2,none⟩=some (.string n):=Apped.keeps h3 (by simp) N0.out;have N3:Hid (v3.ownBlock≠some wr.heap.size):=Apped.apart h3 (B0.out _).2 N0.out;have A3:Hid (App base w w3 v v3 X1):=Apped.trans (A0.out _) h3;clear h3)
        |(go_at_call 237;go_fit (T2.out v3 w3 (Apped.row A3.out) (Nat.le_trans hbase (Apped.grown A3.out).size));rintro e w4 ⟨v4,rfl,h4⟩;have d2:w4.cell? ⟨wr.heap.size,2,none⟩=some (.string n):=Apped.keeps h4 c2 N3.out;have A4:Hid (App base w w4 v v4 X2):=Apped.trans A3.out h4;clear h4)
        |(go_at_call 237;go_fit (T3.out v4 w4 (Apped.row A4.out) (Nat.le_trans hbase (Apped.grown A4.out).size));rintro e w5 ⟨v5,rfl,h5⟩;have A5:Hid (App base w w5 v v5 (l++N)):=Apped.trans A4.out h5;clear h5))
      exact⟨⟨k+1,hlk,by go_num,by rw[HN.out];exact A5⟩,by simp[intOf];omega⟩
    · obtain rfl:k=es.length:=by omega
      go_wp2
      go_ret
      exact⟨u0,rfl,hA.out⟩
theorem conv_bv {w:World}{v:Value}{l:List UInt8}(h:BV w v l):(convert 114 9 v).run prog w=.ok (.string (bs l)) w:=by
  rcases h with ⟨rfl,rfl⟩|⟨g,off,cap,rfl,_,_,_,hc⟩
  · kernel_rfl
  · refine run_convert_bytes_back (P:=prog) _ _ _ 5 ⟨g,off,none⟩ cap l underlying114 (by kernel_rfl) (by kernel_rfl) λj hj=>?_
    have e:(⟨g,off,none⟩:Addr).add j=⟨g,off+j,none⟩:=by
      unfold Addr.add
      by_cases h:j=0
      · subst h;simp
      · simp[h]
    rw[e]
    exact hc j hj
theorem text_read (cb:Nat)(v:Value)(sh:Bool)(s:ByteArray)(rest R:List UInt8)(w:World)(hC:Cur w cb v sh)(hV:BV w v R)(hR:R=txt s++rest)(hs:s.size<256):
    Calls prog 239 #[.pointer (some ⟨cb,0,none⟩)] w λe w'=>e=.returned (.string s)/\(∃v',Cur w' cb v' sh/\BV w' v' rest/\v'.ownBlock=v.ownBlock)/\w.grownBy w' (some cb):=by
  have hN:=num8 cb v sh R w hC hV
  have hR1:R=[UInt8.ofNat s.size]++(s.data.toList++rest):=by
    rw[hR,txt,List.append_assoc];simp[be,Nat.mod_eq_of_lt hs]
  have hlen:1<=R.length:=by rw[hR1];simp
  have hval:val (R.take 1)=s.size:=by
    rw[hR1];simp[val];omega
  have hdrop:R.drop 1=s.data.toList++rest:=by rw[hR1];rfl
  clear hC hV hR1 hR
  go_enter func239,ntmps239
  go_wp2_with fail
  refine hN.mono ?_
  rintro e w1 ⟨x,rfl,hk,hg⟩
  rcases hk with ⟨_,hx,v',hC',hV',ho'⟩|⟨h,_⟩
  · rw[hval] at hx
    subst hx
    rw[hdrop] at hV'
    have hT:=take_any cb s.size v' sh _ w1 hC' hV' (by omega)
    have hw:IntKind.u64.wrap (s.size:Int)=s.size:=wrap_u64 (by omega) (by omega)
    have hG:Hid (w.grownBy w1 (some cb)):=hg
    have HO:Hid (v'.ownBlock=v.ownBlock):=ho'
    clear hC' hV' hN hg ho'
    go_wp2_with fail
    refine hT.mono ?_
    rintro e w2 ⟨hk,hg2⟩
    rcases hk with ⟨_,u,v2,rfl,hC2,hU,hV2,_,ho2⟩|⟨h,_⟩
    · have e1:(s.data.toList++rest).take s.size=s.data.toList:=by rw[List.take_left'];simp
      have e2:(s.data.toList++rest).drop s.size=rest:=by rw[List.drop_left'];simp
      rw[e1] at hU
      rw[e2] at hV2
      have hcv:=conv_bv hU
      rw[bs_data] at hcv
      have HC2:Hid (Cur w2 cb v2 sh):=hC2
      have HV2:Hid (BV w2 v2 rest):=hV2
      have HG2:Hid (w1.grownBy w2 (some cb)):=hg2
      have HO2:Hid (v2.ownBlock=v'.ownBlock):=ho2
      obtain⟨ua,un,uc,rfl⟩:=hU.form
      clear hT hC2 hV2 hU hg2 ho2
      go_wp2
      go_ret
      exact⟨rfl,⟨v2,HC2.out,HV2.out,HO2.out.trans HO.out⟩,hG.out.trans HG2.out⟩
    · rw[List.length_append] at h;simp at h;omega
  · omega
end Go.Proofs.YtgamgomepdfgdaaGreat
