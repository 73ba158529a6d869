import Derived.Test.YtgamgomepdfgdaaGreatFM34
set_option maxRecDepth 100000
set_option maxHeartbeats 8000000
namespace Go.Proofs.YtgamgomepdfgdaaGreat
open Go.RowKit Go.Proofs.Tryz
theorem runs_at:∀{l:List Cg} {g:ByteArray->ByteArray} {k:Nat} (hk:k<l.length),(makes g l).2=l.length->appOn (after g (l.take k)) (l[k]).2=true
  |x::l,g,0,_,h=>by
    unfold makes at h
    by_cases hx:appOn g x.2=true
    · exact hx
    · simp[hx] at h
  |x::l,g,k+1,hk,h=>by
    unfold makes at h
    by_cases hx:appOn g x.2=true
    · simp only[hx,if_true,List.length_cons,Nat.add_right_cancel_iff] at h
      have:=runs_at (l:=l) (g:=edited g x.2) (k:=k) (by simpa using hk) h
      simpa[after] using this
    · simp[hx] at h
theorem after_at {l:List Cg}{g:ByteArray->ByteArray}{k:Nat}(hk:k<l.length):after g (l.take (k+1))=edited (after g (l.take k)) (l[k]).2:=by
  rw[List.take_succ_eq_append_getElem hk,after_snoc]
theorem flat_idx:∀{M:List (Nat×List Nat)} {k m:Nat} (hk:k<M.length) (hm:m<(M[k]).2.length),(M.flatMap Prod.snd)[((M.take k).flatMap Prod.snd).length+m]? =some (M[k]).2[m]
  |x::M,0,m,_,hm=>by
    have hm':m<x.2.length:=hm
    rw[List.take_zero,List.flatMap_nil,List.length_nil,Nat.zero_add,List.flatMap_cons,List.getElem?_append_left hm']
    exact List.getElem?_eq_getElem hm'
  |x::M,k+1,m,hk,hm=>by
    have ih:=flat_idx (M:=M) (k:=k) (m:=m) (by simpa using hk) hm
    rw[List.take_succ_cons,List.flatMap_cons,List.flatMap_cons,List.length_append,List.getElem?_append_right (by omega),show x.2.length+((M.take k).flatMap Prod.snd).length+m-x.2.length=((M.take k).flatMap Prod.snd).length+m by omega]
    exact ih
theorem flat_step {M:List (Nat×List Nat)}{k:Nat}(hk:k<M.length):((M.take (k+1)).flatMap Prod.snd).length=((M.take k).flatMap Prod.snd).length+(M[k]).2.length:=by
  rw[List.take_succ_eq_append_getElem hk,List.flatMap_append,List.length_append];simp
theorem has_at {K:List Kn}{y:Cg}(hy:Has K y)(hn:(K.map Kn.id).Nodup){i:Nat}{k:Kn}(hk:K[i]? =some k)(e:k.id=y.1):k.es=y.2:=by
  obtain⟨k2,hm,h1,h2⟩:=hy
  obtain⟨j,hj,rfl⟩:=List.mem_iff_getElem.1 hm
  obtain⟨hi,e2⟩:=List.getElem?_eq_some_iff.1 hk
  have:i=j:=(List.getElem_inj (h₀:=by simpa using hi) (h₁:=by simpa using hj) hn).1 (by rw[List.getElem_map,List.getElem_map,e2,e,h1])
  subst this
  rw[<-e2];exact h2
def LkAt (w wr:World)(p:Pe)(s:Ts)(k:Nat)(at_:Nat)(fv:Value):Prop:=
  ∃F g,FilesAt wr fv F/\F.length<=4*at_/\at_=((s.main.take k).flatMap Prod.snd).length/\Lists F g/\MainEv p.jobs p.known g (s.main.drop k) s.tip/\Below w.heap.size w wr
def LkIn (w wr:World)(g:ByteArray->ByteArray)(l:List Cg)(at0 m:Nat)(fv:Value):Prop:=
  ∃F,FilesAt wr fv F/\F.length<=4*(at0+m)/\Lists F (after g (l.take m))/\Below w.heap.size w wr
theorem pl_looks0 (R V:Nat->Prop)(pb xb:Nat)(c:Cfg)(σ:Sg)(p:Pe)(v:Pv)(w:World)(X:Nat->Prop)(hP:ProgIs w X xb c σ 0 g0)(hL:PlIs w R V pb xb c p v)(hG:Gd0 c σ p)(hc:c.Ok)(hn:σ.rs.length<1048576)(hdr:(σ.ts c).acked=(σ.ts c).outs.length):
    Calls prog 20 #[.pointer (some ⟨pb,0,none⟩)] w λe w'=>e=.returned (.bool true)/\Below w.heap.size w w':=by
  obtain⟨s1,s2,s3,s4,s5,s6⟩:=hG.small hc hn
  obtain⟨htip,hland⟩:=hG.pos.done hG.ev hdr
  have hinv:=hG.ok.fits.inv hc
  have hids:(σ.ts c).ids.length<=σ.rs.length:=hinv.2.ids
  have hcnt:(σ.ts c).outs.length+(σ.ts c).queue.length+trainLen (σ.ts c).segs=(σ.ts c).ids.length:=hinv.1.cnt
  have htree:=pTree X xb c σ 0 g0 w hP (by
    show (0+4*(σ.ts c).outs.length)*32<=_
    omega)
  have b0:=hL.bx.c 0 (.pointer (some ⟨xb,0,none⟩))
  have HMain:Hid (∀W,Below w.heap.size w W->Calls prog 66 #[.pointer (some ⟨xb,0,none⟩)] W λe w'=>ProgMain W w' e c g0 σ/\Below W.heap.size W w'):=λW hb=>pMain X xb c σ 0 g0 W (hP.later hb) hG.ok hc hn
  have HL:Hid (PlIs w R V pb xb c p v):=hL
  have HG:Hid (Gd0 c σ p):=hG
  have Htip:Hid (Lists p.tip (σ.ts c).tip):=htip
  have Hland:Hid (p.landed=(σ.ts c).main.flatMap Prod.snd):=hland
  have hup:=hG.up
  have Htl:Hid (∀e∈p.jobs,e.tree.length<8796093022208/\e.ids.length<1099511627776):=hG.jt
  have Hout:Hid ((σ.ts c).outs.length<1048576):=by show _<_;omega
  clear hP hL hG htip hland hinv hids hcnt
  go_enter func20,ntmps20
  go_wp2_with fail
  refine htree.mono ?_
  rintro e w1 ⟨hT,hb1⟩
  rcases hT with ⟨_,tl,tb,tc,rfl,hTold,hTl,hTrow⟩|⟨hu,_⟩
  · have hL1:=HL.out.later hb1
    have c10:=hL1.bx.c 10 v.tv
    have hali:=alike_all tl p.tip _ _ w1 (FilesAt.of_row hTrow) hL1.tr.1 (by have:tl.length<=0+4*(σ.ts c).outs.length:=hTl;have:=Hout.out;omega)
    rw[(hTold.lists).alike Htip.out] at hali
    have Hb1:Hid (Below w.heap.size w w1):=hb1
    clear htree hTold hTl hTrow b0 hL1
    go_wp2_with fail
    refine hali.mono ?_
    rintro _ w2 ⟨rfl,hd2⟩
    have hb2:Below w.heap.size w w2:=Hb1.out.trans (hd2.below.mono Hb1.out.size)
    have hmain:=HMain.out w2 hb2
    have b0:=(HL.out.later hb2).bx.c 0 (.pointer (some ⟨xb,0,none⟩))
    have Hb2:Hid (Below w.heap.size w w2):=hb2
    clear hali c10 hd2 hb2 Hb1 hb1 HMain
    go_wp2_with fail
    refine hmain.mono ?_
    rintro e w3 ⟨hM,hb3⟩
    rcases hM with ⟨_,mv,ml,rfl,hfst,hTips⟩|⟨hu,_⟩
    · obtain⟨ma,mc,rfl⟩:=(Sl.of_row hTips.row).form
      have Hb3:Hid (Below w.heap.size w w3):=Hb2.out.trans (hb3.mono Hb2.out.size)
      have HT:Hid (TipsOut w2.heap.size w3 (.slice ma ml.length mc) ml):=hTips
      have Hfst:Hid (ml.map Prod.fst=(σ.ts c).main):=hfst
      have hml:ml.length<1048576:=by
        have h1:=congrArg List.length hfst
        rw[List.length_map] at h1
        have h2:(σ.ts c).main.length<=(σ.ts c).outs.length:=(HG.out.ok.fits.inv hc).1.main
        have h3:=Hout.out
        have h4:ml.length=(σ.ts c).main.length:=h1
        omega
      have H0:Hid (LkAt w3 w3 p (σ.ts c) 0 0 (.slice none 0 0)):=⟨[],λ_=>⟨#[]⟩,.inl ⟨rfl,none,0,rfl⟩,Nat.zero_le _,rfl,Lists.nil,HG.out.ev.main,Below.refl _ _⟩
      clear hmain hb3 hTips hfst b0
      go_wp2_with fail
      go_loopw [8,9,10] (λav fv iv wr=>∃k at_:Nat,k<=ml.length/\iv=.int .i64 k/\av=.int .i64 at_/\at_<1048576/\Hid (LkAt w3 wr p (σ.ts c) k at_ fv)) (λ_ _ iv _=>ml.length-(intOf iv).toNat)
      case atStart=>exact⟨0,0,Nat.zero_le _,rfl,rfl,by omega,H0⟩
      case round=>
        obtain⟨k,at_,hk,rfl,rfl,hat,HK⟩:=hrel
        by_cases hlt:k<ml.length
        · obtain⟨F,g,hF,hFl,hae,hLs,hME,hb⟩:=HK.out
          obtain⟨wo,hwo⟩:∃x,x=wr:=⟨wr,rfl⟩
          subst hwo
          obtain⟨⟨⟨job,ids⟩,iv⟩,hy⟩:∃z,z=ml[k]:=⟨_,rfl⟩
          have hmM:k<(σ.ts c).main.length:=by have h1:=congrArg List.length Hfst.out;rw[List.length_map] at h1;omega
          have hmk:(σ.ts c).main[k]=(job,ids):=by
            have:(ml.map Prod.fst)[k]'(by rw[List.length_map];exact hlt)=(σ.ts c).main[k]:=by simp only[Hfst.out]
            rw[<-this,List.getElem_map,<-hy]
          rw[List.drop_eq_getElem_cons hmM,hmk] at hME
          obtain⟨l,hlne,hlid,hlH,hlm,⟨e,he,he1,he2,he3⟩,hrest⟩:=hME
          have hlen:l.length=ids.length:=by rw[<-List.length_map (f:=Prod.fst),hlid]
          have hpos:0<ids.length:=by rw[<-hlen];exact List.length_pos_iff.2 hlne
          have hiv:Sl w3 3 1 iv ids.length (ids.map cI):=by have:=Sl.of_row (HT.out.ids _ (List.getElem_mem hlt));rw[<-hy] at this;exact this
          obtain⟨gi,oi,ci,rfl,_⟩:=hiv.addr hpos
          have hmr:=Sl.of_row HT.out.row
          obtain⟨g1,o1,c1,e1,_⟩:=hmr.addr (by omega)
          cases e1
          have hstep:((((σ.ts c).main.take (k+1)).flatMap Prod.snd).length)=at_+ids.length:=by rw[flat_step hmM,<-hae,hmk]
          have hland:∀m (hm:m<ids.length),p.landed[at_+m]? =some ids[m]:=λm hm=>by
            have:=flat_idx (M:=(σ.ts c).main) (k:=k) (m:=m) hmM (by rw[hmk];exact hm)
            rw[<-Hland.out,<-hae] at this
            rw[this]
            simp only[hmk]
          have hlandl:at_+ids.length<=p.landed.length:=by
            have:=(List.getElem?_eq_some_iff.1 (hland (ids.length-1) (by omega))).1
            omega
          obtain⟨gl,ol,cl,elv,_⟩:=HL.out.lr.addr (by omega)
          have HC:Hid (∀W,Below w3.heap.size w3 W->W.cell? ⟨g1,o1+k*2,none⟩=some (.int .i64 job)/\W.cell? ⟨g1,o1+k*2+1,none⟩=some (.slice (some ⟨gi,oi,none⟩) ids.length ci)/\W.cell? ⟨pb,11,none⟩=some (.slice (some ⟨gl,ol,none⟩) p.landed.length cl)/\(∀m (hm:m<ids.length),W.cell? ⟨gi,oi+m,none⟩=some (.int .i64 (ids[m]:Nat))/\W.cell? ⟨gl,ol+(at_+m),none⟩=some (.int .i64 (ids[m]:Nat)))/\PlIs W R V pb xb c p v):=λW hW=>by
            have hbW:Below w.heap.size w W:=Hb3.out.trans (hW.mono Hb3.out.size)
            have hLW:=HL.out.later hbW
            have hrW:=hmr.later hW
            refine⟨?_,?_,?_,λm hm=>⟨?_,?_⟩,hLW⟩
            · have:=hrW.at_ (f:=cTp) (λ_=>rfl) hlt 0 rfl;rw[<-hy] at this;exact this
            · have:=hrW.at_ (f:=cTp) (λ_=>rfl) hlt 1 rfl;rw[<-hy] at this;exact this
            · rw[<-elv];exact hLW.bx.cell (i:=11) rfl
            · exact(hiv.later hW).cell (j:=m) (by rw[List.getElem?_map,List.getElem?_eq_getElem hm];rfl)
            · have h1:=hLW.lr
              rw[elv] at h1
              exact h1.cell (j:=at_+m) (by rw[List.getElem?_map,hland m hm];rfl)
          have HR:Hid (MainEv p.jobs p.known (makes g l).1 ((σ.ts c).main.drop (k+1)) (σ.ts c).tip):=hrest
          have Hid1:Hid (l.length=ids.length/\l.map Prod.fst=ids/\(∀z∈l,Has p.known z)/\(makes g l).2=l.length):=⟨hlen,hlid,hlH,hlm⟩
          have HPs:Hid (∀F',Lists F' (makes g l).1->Passed p.jobs job F'):=λF' hF'=>⟨e,he,he1,he2,he3.alike hF'⟩
          have H1:Hid (LkIn w3 wo g l at_ 0 u9):=⟨F,hF,by omega,hLs,hb⟩
          have Hstep:Hid (((((σ.ts c).main.take (k+1)).flatMap Prod.snd).length)=at_+ids.length):=hstep
          obtain⟨t1,t2,t3,_,_⟩:=HC.out wo hb
          have hidl:ids.length<1048576:=by omega
          have hne0:((ids.length:Int)==0)=false:=beq_false_of_ne (by omega)
          clear hF hFl hae hLs hb hmk hlH hlm he he1 he2 he3 hrest hlen hiv hmr hland elv HK hlid hlne hy hstep
          go_wp2_with fail
          go_loopw [8,9,11] (λav fv mv wr=>∃m a:Nat,m<=ids.length/\mv=.int .i64 m/\av=.int .i64 a/\Hid (a=at_+m)/\a<1048577/\Hid (LkIn w3 wr g l at_ m fv)) (λ_ _ mv _=>ids.length-(intOf mv).toNat)
          case atStart=>exact⟨0,at_,Nat.zero_le _,rfl,rfl,rfl,by omega,H1⟩
          case round=>
            obtain⟨m,a,hm,rfl,rfl,Ha,hab,HI⟩:=hrel
            obtain⟨F',hF',hFl',hLs',hb'⟩:=HI.out
            clear H1 t1 t2 t3 H0
            obtain⟨t1,t2,t3,hcell,hLW⟩:=HC.out wr hb'
            by_cases hlm:m<ids.length
            · obtain⟨d1,d2⟩:=hcell m hlm
              rw[<-Ha.out] at d2
              have hlm':m<l.length:=by rw[Hid1.out.1];exact hlm
              have hd:decide ((p.landed.length:Int)<=(a:Int))=false:=decide_eq_false (by have:=Ha.out;omega)
              have hal:a<p.landed.length:=by have:=Ha.out;omega
              have hy1:(l[m]).1=ids[m]:=by simp only[<-Hid1.out.2.1,List.getElem_map]
              have hHas:=Hid1.out.2.2.1 _ (List.getElem_mem hlm')
              have happ:onL F' (l[m]).2=true:=by rw[hLs'.on];exact runs_at hlm' Hid1.out.2.2.2
              have hnew:Lists (withL F' (l[m]).2) (after g (l.take (m+1))):=by rw[after_at hlm'];exact hLs'.made _
              obtain⟨k0,hk0,hk1,hk2⟩:=hHas
              have hlen2:=HG.out.eok k0 hk0
              have HH:Hid (Has p.known (l[m])/\(∃k∈p.known,(k.id:Int)=(ids[m]:Nat))/\(l[m]).1=ids[m]/\onL F' (l[m]).2=true/\Lists (withL F' (l[m]).2) (after g (l.take (m+1)))/\(1<=(l[m]).2.length/\(l[m]).2.length<=4)):=⟨⟨k0,hk0,hk1,hk2⟩,⟨k0,hk0,by rw[hk1,hy1]⟩,hy1,happ,hnew,by rw[<-hk2];exact hlen2⟩
              have HF':Hid (FilesAt wr u9 F'):=hF'
              have HFl:Hid (F'.length<=4*(at_+m)):=hFl'
              have Hb':Hid (Below w3.heap.size w3 wr):=hb'
              have HC2:Hid (∀W,Below w3.heap.size w3 W->W.cell? ⟨g1,o1+k*2+1,none⟩=some (.slice (some ⟨gi,oi,none⟩) ids.length ci)/\W.cell? ⟨gi,oi+m,none⟩=some (.int .i64 (ids[m]:Nat))/\PlIs W R V pb xb c p v):=λW hW=>by
                obtain⟨_,x2,_,x4,x5⟩:=HC.out W hW
                exact⟨x2,(x4 m hlm).1,x5⟩
              clear hF' hFl' hLs' hb' hcell hLW hy1 happ hnew hk0 hk1 hk2 hlen2 HI t1
              generalize l[m]=y at HH
              generalize (ids[m]:Nat)=z at d1 d2 HH HC2
              go_wp2_with fail
              go_quiet (fail)
              have hb5:Below w3.heap.size w3 (wr.drewN nq):=Hb'.out.trans ((Drew.one wr nq).below.mono Hb'.out.size)
              have HF5:Hid (FilesAt (wr.drewN nq) u9 F'):=HF'.out.later (Drew.one wr nq).below
              have Hb5:Hid (Below w3.heap.size w3 (wr.drewN nq)):=hb5
              clear HF' Hb' d1 d2 t2 t3
              generalize wr.drewN nq=w5 at *
              obtain⟨x2,x4,x5⟩:=HC2.out w5 hb5
              have hfind:=pl_find R V pb xb c p v (z:Nat) w5 x5 (by omega)
              clear HC2 hb5
              go_wp2_with fail
              refine hfind.mono ?_
              rintro e w5' ⟨hFd,e1⟩
              have e1:w5'=w5:=e1
              subst e1
              rcases hFd with ⟨i',k',hk',hid',rfl⟩|⟨hno,rfl⟩
              · have hes:k'.es=y.2:=has_at HH.out.1 s6 hk' (by rw[HH.out.2.2.1];omega)
                obtain⟨ev,hev⟩:=ks_at x5.ks hk'
                obtain⟨hi',hie⟩:=List.getElem?_eq_some_iff.1 hev
                obtain⟨gk,ok,ck,ekv,_⟩:=x5.kr.addr (by omega)
                have c8:w5'.cell? ⟨pb,8,none⟩=some (.slice (some ⟨gk,ok,none⟩) v.ks.length ck):=by rw[<-ekv];exact x5.bx.cell (i:=8) rfl
                have hkr:=x5.kr
                rw[ekv] at hkr
                have ce:w5'.cell? ⟨gk,ok+i'*3+2,none⟩=some ev:=hkr.at_ (f:=cKn) (λ_=>rfl) hi' 2 (by rw[hie];rfl)
                have hed:EditsAt w5' ev y.2:=by
                  have:=(x5.ke (k',ev) (by rw[<-hie];exact List.getElem_mem hi')).1
                  rw[<-hes];exact this
                have hkl:v.ks.length<1048576:=by have h1:=congrArg List.length x5.ks;rw[List.length_map] at h1;omega
                have hwi:=with_is F' y.2 u9 ev w5' HF5.out hed (by have:=HH.out.2.2.2.2.2.1;omega) (by have:=HFl.out;have:=Ha.out;omega) (by have:=HH.out.2.2.2.2.2.2;omega)
                obtain⟨fa,fc,hfv⟩:=HF5.out.form
                clear hfind hk' hid' hes hev hie ekv hkr hed x5
                subst hfv
                go_wp2_with fail
                refine hwi.mono ?_
                rintro e w6 ⟨hr,hb6⟩
                rcases hr with ⟨_,v6,rfl,hF6,_⟩|⟨hno,_⟩
                · obtain⟨f6,g6,rfl⟩:=hF6.form
                  have HI2:Hid (LkIn w3 w6 g l at_ (m+1) (.slice f6 (withL F' y.2).length g6)):=⟨_,hF6,by have h1:=withL_len F' y.2;have h2:=HFl.out;have h3:=HH.out.2.2.2.2.2.2;omega,HH.out.2.2.2.2.1,Hb5.out.trans (hb6.mono Hb5.out.size)⟩
                  have Ha2:Hid (a+1=at_+(m+1)):=by show _=_;have:=Ha.out;omega
                  clear hF6 hb6 hwi c8 ce x2 x4
                  go_wp2
                  go_roundw
                  case rel=>exact⟨m+1,a+1,hlm,by go_num,by go_num,Ha2,by omega,HI2⟩
                  case measure=>simp[intOf];omega
                · rw[HH.out.2.2.2.1] at hno;cases hno
              · obtain⟨k,hk,e⟩:=HH.out.2.1
                exact absurd e (hno k hk)
            · have hml:m=ids.length:=by omega
              have hlt2:l.take m=l:=List.take_of_length_le (by rw[Hid1.out.1];omega)
              rw[hlt2,<-makes_all l g Hid1.out.2.2.2] at hLs'
              have hevd:=pl_evidence R V pb xb c p v job F' u9 wr hLW hF' (by omega) Htl.out (HPs.out F' hLs')
              have HK2:Hid (∀W,Below wr.heap.size wr W->LkAt w3 W p (σ.ts c) (k+1) a u9):=λW hW=>⟨F',_,hF'.later hW,by have:=Ha.out;omega,by rw[Hstep.out,Ha.out,hml],hLs',HR.out,hb'.trans (hW.mono hb'.size)⟩
              clear hF' hFl' hLs' hb' hcell hLW hlt2 HI hml t3
              go_wp2_with fail
              refine hevd.mono ?_
              rintro _ w6 ⟨rfl,hb6⟩
              have HK3:Hid (LkAt w3 w6 p (σ.ts c) (k+1) a u9):=HK2.out w6 hb6
              clear HK2 hevd hb6 t1 t2
              go_wp2
              go_roundw
              case rel=>exact⟨k+1,a,hlt,by go_num,rfl,by have:=Ha.out;omega,HK3⟩
              case measure=>simp[intOf];omega
        · obtain⟨F,g,hF,hFl,hae,hLs,hME,hb⟩:=HK.out
          have hMl:(σ.ts c).main.length=ml.length:=by have h1:=congrArg List.length Hfst.out;rw[List.length_map] at h1;exact h1.symm
          rw[List.take_of_length_le (by omega),<-Hland.out] at hae
          have hbw:Below w.heap.size w wr:=Hb3.out.trans (hb.mono Hb3.out.size)
          have hLW:=HL.out.later hbw
          obtain⟨la,lc,elv⟩:=hLW.lr.form
          have c11:wr.cell? ⟨pb,11,none⟩=some (.slice la p.landed.length lc):=by rw[<-elv];exact hLW.bx.cell (i:=11) rfl
          have Hbw:Hid (Below w.heap.size w wr):=hbw
          subst hae
          clear hF hFl hLs hME hb hbw hLW elv HK H0 hMl
          go_wp2
          go_ret
          exact⟨rfl,Hbw.out⟩
    · rw[hup] at hu;cases hu
  · rw[hup] at hu;cases hu
end Go.Proofs.YtgamgomepdfgdaaGreat
