/- Contracts and lemmas (nothing is claimed here). -/
import Derived.Test.YtpfkoldfbecdlaaGreatDoorTLdA
import Derived.Test.YtpfkoldfbecdlaaGreatDoorJ28
namespace Go.Proofs.YtpfkoldfbecdlaaGreatDoor
open Go.RowKit Go.Vf Go.Maps
def RefLoadPostE (t:List UInt8)(w:World)(e:Ending)(w':World):Prop:=Below w.heap.size w w'∧
  ((∃why line,ado t=.error (why,line)∧e=.returned (.tuple #[.agg #[.slice none 0 0],.int .i64 why,.int .i64 line]))∨
   (∃E l a n c,ado t=.ok E∧RiseE l∧l.Perm E∧e=.returned (.tuple #[.agg #[.slice a n c],.int .i64 0,.int .i64 0])∧NOwn w' w.heap.size (.slice a n c) l))
set_option maxHeartbeats 16000000 in
set_option maxRecDepth 20000 in
theorem refLoadE_any (s:ByteArray)(hbig:s.size≤281474976710656)(w:World):Calls Tryz.prog 20 #[.string s] w fun e w'=>RefLoadPostE s.data.toList w e w':=by
  have HSL:Hid (s.data.toList.length=s.size):=(Lib.size_eq s).symm
  have hb0:=(Below.refl w.heap.size w).alloc (Nat.le_refl _) (.cells #[.slice none 0 0] 31)
  have hn0:=Blk.new w 31 #[.slice none 0 0]
  by_cases hlong:65536<s.size
  · have hlz:(65536:Int)<(s.size:Int):=by omega
    have HR:Hid (ado s.data.toList=.error (2,0)):=by show _=_;unfold ado;rw[if_pos (by rw[HSL.out];exact hlong)]
    go_enter Tryz.func20,Tryz.ntmps20
    go_wp2_with fail
    refine bodyPost_ret (abq hn0 rfl rfl rfl) rfl ?_
    exact⟨hb0,.inl ⟨_,_,HR.out,rfl⟩⟩
  · have hlz: ¬(65536:Int)<(s.size:Int):=by omega
    have hs:s.size≤65536:=by omega
    have hb1:=hb0.alloc (by simp) (.cells #[.slice none 0 0] 31)
    have hn1:=Blk.new (w.alloc (.cells #[.slice none 0 0] 31)) 31 #[.slice none 0 0]
    have hn0':Blk ((w.alloc (.cells #[.slice none 0 0] 31)).alloc (.cells #[.slice none 0 0] 31)) w.heap.size 31 #[.slice none 0 0]:=hn0.below ((Below.refl _ _).alloc (Nat.le_refl _) _) (by simp)
    rw[show (w.alloc (.cells #[.slice none 0 0] 31)).heap.size=w.heap.size+1 by simp] at hn1
    go_enter Tryz.func20,Tryz.ntmps20
    go_upto_region 4 with fail
    generalize (w.alloc (.cells #[.slice none 0 0] 31)).alloc (.cells #[.slice none 0 0] 31)=W at hb1 hn1 hn0'⊢
    clear hn0 hb0
    go_wp2_with fail
    refine(refLines_any s hs W).mono ?_
    rintro e w1 ⟨al,kl,cl,rfl,hol,hbl⟩
    obtain⟨C,hC⟩: ∃C,C=aa7 (10:UInt8) s.data.toList:=⟨_,rfl⟩
    rw[←hC] at hol
    have HC:Hid (C=aa7 (10:UInt8) s.data.toList):=hC
    have HCS:Aside (∀x∈C,x.length≤65536):=fun x hx=>by rw[hC] at hx;exact Nat.le_trans (abj 10 _ x hx) (by rw[HSL.out];exact hs)
    have hkl:kl=C.length:=by obtain⟨_,_,e⟩:=aba hol;cases e;rfl
    have HKL:Hid (kl=C.length):=hkl
    have hkl2:kl≤65537:=by rw[hkl,hC];have:=abn 10 s.data.toList;rw[HSL.out] at this;omega
    have HJ0:Aside (LE w (.slice al kl cl) C [] (.slice none 0 0) [] w1):=
      ⟨hn0'.below hbl hn0'.lt,hn1.below hbl hn1.lt,aae hol hb1.size,World.ownsRow_nil _ _ _ _,by simp,rfl,hb1.trans (hbl.mono hb1.size)⟩
    obtain⟨RL,hRL⟩: ∃RL,ae9 C 0 []=RL:=⟨_,rfl⟩
    have HRL:Hid (ado s.data.toList=RL):=by show _=_;unfold ado;rw[if_neg (by rw[HSL.out];omega),←HC.out,hRL]
    have H0:Hid (ae9 (C.drop 0) ((0:Nat):Int) []=RL):=hRL
    clear hC hkl hRL hol hbl hn0' hn1 hb1
    go_wp2_with fail
    go_loopg [7] kl (fun g1 v7 wr=> ∃(j:Nat) (acc l:List Ent) (ma:Option Addr) (mc:Nat) (ps:List EV),v7=.int .i64 j∧j≤kl∧kl-j≤g1∧acc.length≤4096∧Hid (RiseE l∧l.Perm acc∧ ∀e∈l,e.1.length≤8)∧Aside (LE w (.slice al kl cl) C l (.slice ma acc.length mc) ps wr)∧Hid (ae9 (C.drop j) (j:Int) acc=RL))
    case atStart=>exact⟨0,[],[],none,0,[],rfl,Nat.zero_le _,by omega,by simp,⟨by simp[RiseE],List.Perm.refl _,by simp⟩,HJ0,H0⟩
    case round=>
      clear HJ0 H0
      obtain⟨j,acc,l,ma,mc,ps,rfl,hjk,hg1,hacc,HSO,HJ,HK⟩:=hrel
      have hll:Hid (l.length=acc.length):=HSO.out.2.1.length_eq
      by_cases hlt:j<kl
      · have hltz:(j:Int)<(kl:Int):=by omega
        have hltC:j<C.length:=by rw[←HKL.out];exact hlt
        obtain⟨gl,cpl,el,hgl,hgl2,hcl⟩:=HJ.out.lines.cells (by omega)
        cases el
        have hcj:=hcl j hltC
        have hlen:=HCS.out C[j] (List.getElem_mem hltC)
        obtain⟨t,ht⟩: ∃t,t=C[j]:=⟨_,rfl⟩
        rw[←ht] at hcj hlen
        have HT:Hid (t=C[j]):=ht
        have hsil:=silent_any (bsz t) wr
        rw[show (bsz t).data.toList=t from rfl] at hsil
        clear hcl ht
        by_cases hst:aaz t=true
        · rw[hst] at hsil
          have HK2:Hid (ae9 (C.drop (j+1)) ((j+1:Nat):Int) acc=RL):=by
            show _=_
            rw[←HK.out,tab_silent hltC (by rw[←HT.out];exact hst)];rfl
          clear HK hst
          go_wp2_with fail
          refine hsil.mono ?_
          rintro e wq ⟨rfl,rfl⟩
          go_wp2
          go_roundg (C.length-(j+1))
          case measure=>omega
          case rel=>exact⟨j+1,acc,l,ma,mc,ps,by first | rfl | go_num,by omega,by omega,hacc,HSO,HJ,HK2⟩
        · have hst':aaz t=false:=by simpa using hst
          rw[hst'] at hsil
          clear hst
          have hline:=refLineE_any (bsz t) (by rw[ab8];exact hlen) wr
          rw[show (bsz t).data.toList=t from rfl] at hline
          go_wp2_with fail
          refine hsil.mono ?_
          rintro e wq ⟨rfl,rfl⟩
          go_wp2_with fail
          refine hline.mono ?_
          rintro e w2 ⟨hb2,pa,pn,pc,ea,en,ec,ok,rfl,hcase⟩
          have HJ2:=HJ.out.go hb2
          have hb3:=(Below.refl w2.heap.size w2).alloc (Nat.le_refl _) (.cells #[.slice pa pn pc,.slice ea en ec] 128)
          have HJ3':=HJ2.go hb3
          have hM3:=Blk.new w2 128 #[.slice pa pn pc,.slice ea en ec]
          rcases hcase with ⟨rfl,x,hent,hop,hoe⟩ | ⟨rfl,hent⟩
          · obtain⟨pts,els⟩:=x
            obtain⟨_,_,e1⟩:=hop.val
            obtain rfl:pn=pts.length:=(Value.slice.inj e1).2.1
            obtain⟨_,_,e2,_⟩:=hoe.cap
            obtain rfl:en=els.length:=(Value.slice.inj e2).2.1
            clear e1 e2
            have hlens:=entR_row8 hent
            have HEN:Hid (ad9 C[j]=some (pts,els)):=by show _=_;rw[←HT.out];exact hent
            have HST:Hid (aaz C[j]=false):=by show _=_;rw[←HT.out];exact hst'
            have hop3:IOwn _ w.heap.size (.slice pa pts.length pc) pts:=aac (hop.mono HJ.out.below.size) hb3
            have hoe3:EOwn _ w.heap.size (.slice ea els.length ec) els:=aac (aae hoe HJ.out.below.size) hb3
            clear hsil hline hb2 HJ2 hop hoe hent hst' HJ
            go_upto_region 12 with fail
            generalize w2.alloc (.cells #[.slice pa pts.length pc,.slice ea els.length ec] 128)=w3 at HJ3' hM3 hop3 hoe3⊢
            generalize w2.heap.size=MB at hM3⊢
            have HJ3:Aside (LE w (.slice (some ⟨gl,0,none⟩) C.length cl) C l (.slice ma acc.length mc) ps w3):=HJ3'
            have HM3:Aside (Blk w3 MB 128 #[.slice pa pts.length pc,.slice ea els.length ec]):=hM3
            have HOP3:Aside (IOwn w3 w.heap.size (.slice pa pts.length pc) pts):=hop3
            have HOE3:Aside (EOwn w3 w.heap.size (.slice ea els.length ec) els):=hoe3
            clear hb3 HJ3' hM3 hop3 hoe3
            -- the weights
            go_wp2_with fail
            obtain⟨wo,hwo⟩: ∃wo,wo=w3:=⟨_,rfl⟩
            subst hwo
            go_loopg [10] els.length (fun g2 v10 wr=> ∃k:Nat,v10=.int .i64 k∧k≤els.length∧els.length-k≤g2∧Hid ((els.take k).all aai=true)∧Aside (Below wo.heap.size wo wr))
            case atStart=>exact⟨0,rfl,Nat.zero_le _,by omega,by show _=_;simp,Below.refl _ _⟩
            case round=>
              obtain⟨k,rfl,hk,hg2,HAL,HBW⟩:=hrel
              have HJ4:Aside (LE w (.slice (some ⟨gl,0,none⟩) C.length cl) C l (.slice ma acc.length mc) ps wr):=HJ3.out.go HBW.out
              have HM4:Aside (Blk wr MB 128 #[.slice pa pts.length pc,.slice ea els.length ec]):=HM3.out.below HBW.out HM3.out.lt
              have HOP4:Aside (IOwn wr w.heap.size (.slice pa pts.length pc) pts):=aac HOP3.out HBW.out
              have HOE4:Aside (EOwn wr w.heap.size (.slice ea els.length ec) els):=aac HOE3.out HBW.out
              have r0:wr.cell? ⟨w.heap.size,0,none⟩=some (.slice none 0 0):=HJ4.out.res.cell 0
              have rz:=HJ4.out.res.frozen 0
              have m0:wr.cell? ⟨MB,0,none⟩=some (.slice pa pts.length pc):=HM4.out.cell 0
              have m1:wr.cell? ⟨MB,1,none⟩=some (.slice ea els.length ec):=HM4.out.cell 1
              by_cases hkl:k<els.length
              · obtain⟨be,oe,rfl,y0,y1,y2,y3⟩: ∃be oe,ea=some ⟨be,oe,none⟩∧wr.cell? ⟨be,oe+k*4,none⟩=some (.bool els[k].va)∧wr.cell? ⟨be,oe+k*4+1,none⟩=some (.int .i64 els[k].pr)∧wr.cell? ⟨be,oe+k*4+2,none⟩=some (.int .i64 els[k].se)∧wr.cell? ⟨be,oe+k*4+3,none⟩=some (.int .i64 els[k].te):=by
                  rcases HOE4.out.els with ⟨_,_,_,e⟩ | ⟨b,off,c',e,hb,hc⟩
                  · rw[e] at hkl;simp at hkl
                  · cases (Value.slice.inj e).1
                    obtain⟨z0,z1,z2,z3⟩:=hc k hkl
                    exact⟨b,off,rfl,z0,z1,z2,z3⟩
                have hri:=refRight_any els[k] wr
                have HTK:Hid ((els.take (k+1)).all aai=((els.take k).all aai&&aai els[k])):=by
                  show _=_
                  rw[List.take_add_one,List.getElem?_eq_getElem hkl,List.all_append]
                  simp
                have HMEM:Hid (els[k]∈els):=List.getElem_mem hkl
                generalize els[k]=ek at*
                obtain⟨q1,q2,q3,q4⟩:=ek
                simp only at y0 y1 y2 y3
                have hklz:(k:Int)<(els.length:Int):=by omega
                cases hrb:aai ⟨q1,q2,q3,q4⟩ with
                | true=>
                  rw[hrb] at hri
                  have HAL2:Hid ((els.take (k+1)).all aai=true):=by show _=_;rw[HTK.out,HAL.out,hrb];rfl
                  clear HAL HTK hrb
                  go_wp2_with fail
                  refine hri.mono ?_
                  rintro _ w5 ⟨rfl,hb5⟩
                  go_wp2
                  go_roundg (els.length-(k+1))
                  case measure=>omega
                  case rel=>exact⟨k+1,by first | rfl | go_num,by omega,Nat.le_refl _,HAL2,HBW.out.trans (hb5.mono HBW.out.size)⟩
                | false=>
                  rw[hrb] at hri
                  have HF:Hid (ado s.data.toList=.error (62,(j:Int)+1)):=by
                    show _=_
                    rw[HRL.out,←HK.out]
                    refine tab_weight hltC HST.out HEN.out (fun h=> ?_)
                    have:=List.all_eq_true.1 h _ HMEM.out
                    rw[hrb] at this
                    cases this
                  clear HAL HTK hrb HK
                  go_wp2_with fail
                  refine hri.mono ?_
                  rintro _ w5 ⟨rfl,hb5⟩
                  have HJ5:Aside (LE w (.slice (some ⟨gl,0,none⟩) C.length cl) C l (.slice ma acc.length mc) ps w5):=HJ4.out.go hb5
                  clear r0 rz
                  have r0:w5.cell? ⟨w.heap.size,0,none⟩=some (.slice none 0 0):=HJ5.out.res.cell 0
                  have rz:=HJ5.out.res.frozen 0
                  go_wp2_with fail
                  refine bodyPost_ret (abq (HJ5.out.res.set 0 (.slice none 0 0)) rfl rfl rfl) rfl ?_
                  exact⟨HJ5.out.below.setCell (p:=⟨w.heap.size,0,none⟩) (Nat.le_refl _) _,.inl ⟨_,_,HF.out,rfl⟩⟩
              · have hklz: ¬(k:Int)<(els.length:Int):=by omega
                have HW:Hid (els.all aai=true):=by show _=_;rw[←HAL.out,List.take_of_length_le (by omega)]
                clear HAL
                have x0:wr.cell? ⟨w.heap.size+1,0,none⟩=some (.slice ma acc.length mc):=HJ4.out.box.cell 0
                have hpl:=refPlaceE_any l HSO.out.1 (by rw[hll.out];omega) (fun e he=>Nat.le_trans (HSO.out.2.2 e he) (by omega)) (.slice ma acc.length mc) (.slice pa pts.length pc) pts (by omega) wr.heap.size wr (Nat.le_refl _) HJ4.out.min HOP4.out.ints
                go_wp2_with fail
                refine hpl.mono ?_
                rintro e w4 ⟨k0,b0,hpa,rfl,hfd,hb4⟩
                have HJ5:Aside (LE w (.slice (some ⟨gl,0,none⟩) C.length cl) C l (.slice ma acc.length mc) ps w4):=HJ4.out.go hb4
                have HM5:Aside (Blk w4 MB 128 #[.slice pa pts.length pc,.slice ea els.length ec]):=HM4.out.below hb4 HM4.out.lt
                have HOP5:Aside (IOwn w4 w.heap.size (.slice pa pts.length pc) pts):=aac HOP4.out hb4
                have HOE5:Aside (EOwn w4 w.heap.size (.slice ea els.length ec) els):=aac HOE4.out hb4
                clear hb4 HJ4 HM4 HOP4 HOE4 hpl r0 rz x0 m0 m1 HBW HJ3 HM3 HOP3 HOE3
                have r0:w4.cell? ⟨w.heap.size,0,none⟩=some (.slice none 0 0):=HJ5.out.res.cell 0
                have rz:=HJ5.out.res.frozen 0
                rcases hfd with ⟨rfl,hk0,hpt⟩ | ⟨rfl,hno⟩
                · -- such points stand there
                  have HF:Hid (ado s.data.toList=.error (61,(j:Int)+1)):=by
                    show _=_
                    rw[HRL.out,←HK.out]
                    exact tab_twice hltC HST.out HEN.out HW.out ((has_iff HSO.out.2.1 pts).1 ⟨k0,hk0,hpt⟩)
                  clear HK hk0 hpt hpa
                  go_wp2_with fail
                  refine bodyPost_ret (abq (HJ5.out.res.set 0 (.slice none 0 0)) rfl rfl rfl) rfl ?_
                  exact⟨HJ5.out.below.setCell (p:=⟨w.heap.size,0,none⟩) (Nat.le_refl _) _,.inl ⟨_,_,HF.out,rfl⟩⟩
                · have hany:hasT acc pts=false:=by
                    cases h:hasT acc pts with
                    | false=>rfl
                    | true=>obtain⟨i,hi,e⟩:=(has_iff HSO.out.2.1 pts).2 h;exact absurd e (hno i hi)
                  have x0:w4.cell? ⟨w.heap.size+1,0,none⟩=some (.slice ma acc.length mc):=HJ5.out.box.cell 0
                  by_cases hfull:4096≤acc.length
                  · have hfz:(4096:Int)≤(acc.length:Int):=by omega
                    have HF:Hid (ado s.data.toList=.error (2,(j:Int)+1)):=by
                      show _=_
                      rw[HRL.out,←HK.out]
                      exact tab_many hltC HST.out HEN.out HW.out hany hfull
                    clear HK hno hpa hany
                    go_wp2_with fail
                    refine bodyPost_ret (abq (HJ5.out.res.set 0 (.slice none 0 0)) rfl rfl rfl) rfl ?_
                    exact⟨HJ5.out.below.setCell (p:=⟨w.heap.size,0,none⟩) (Nat.le_refl _) _,.inl ⟨_,_,HF.out,rfl⟩⟩
                  · have hfz: ¬(4096:Int)≤(acc.length:Int):=by omega
                    have HK2:Hid (ae9 (C.drop (j+1)) ((j+1:Nat):Int) (acc++[(pts,els)])=RL):=by
                      show _=_
                      rw[←HK.out,tab_more hltC HST.out HEN.out HW.out hany (by omega)];rfl
                    have HSO2:Hid (RiseE (l.take k0++[(pts,els)]++l.drop k0)∧(l.take k0++[(pts,els)]++l.drop k0).Perm (acc++[(pts,els)])∧ ∀e∈l.take k0++[(pts,els)]++l.drop k0,e.1.length≤8):=⟨riseE_put (x:=(pts,els)) HSO.out.1 hpa hno,perm_put HSO.out.2.1,fun e he=>by
                      rcases List.mem_append.1 he with he | he
                      · rcases List.mem_append.1 he with he | he
                        · exact HSO.out.2.2 e (List.mem_of_mem_take he)
                        · simp at he;subst he;exact hlens.1
                      · exact HSO.out.2.2 e (List.mem_of_mem_drop he)⟩
                    have hk0:k0≤acc.length:=by have:=hpa.le;rw[hll.out] at this;exact this
                    have hk0z:(k0:Int)≤(acc.length:Int):=by omega
                    have HPSL:Hid (ps.length=acc.length):=by show _=_;have:=congrArg List.length HJ5.out.is;rw[List.length_map,hll.out] at this;exact this
                    clear hany HK hno hpa r0 rz
                    have q0:w4.cell? ⟨MB,0,none⟩=some (.slice pa pts.length pc):=HM5.out.cell 0
                    have q1:w4.cell? ⟨MB,1,none⟩=some (.slice ea els.length ec):=HM5.out.cell 1
                    have HN1:Aside ((abx (ps.take k0)).length=k0*2):=by show _=_;rw[flatE_len,List.length_take,HPSL.out];omega
                    have HN2:Aside ((abx (ps.drop k0)).length=(acc.length-k0)*2):=by show _=_;rw[flatE_len,List.length_drop,HPSL.out]
                    have HO1:Aside (∀u∈abx (ps.take k0),u.oneCell'=true):=flatE_one (fun x hx=>HJ5.out.parts x (List.mem_of_mem_take hx))
                    have HO2:Aside (∀u∈abx (ps.drop k0),u.oneCell'=true):=flatE_one (fun x hx=>HJ5.out.parts x (List.mem_of_mem_drop hx))
                    have HMA:Hid ((ma=none∧acc.length=0∧mc=0)∨ ∃g,ma=some ⟨g,0,none⟩∧acc.length≤mc):=by
                      rcases HJ5.out.ents.2 with ⟨e0,hz0⟩ | ⟨gm,cpm,curm,em,hbm,hgm,hcm,_⟩
                      · obtain⟨e1,e2,e3⟩:=Value.slice.inj e0
                        exact .inl ⟨e1,e2,e3⟩
                      · obtain⟨e1,e2,e3⟩:=Value.slice.inj em
                        exact .inr ⟨gm,e1,by rw[e3,←HPSL.out];exact hcm⟩
                    go_upto_region 23 with fail
                    go_cut [13] from 20 to 95 (fun v13 wx=> ∃a5 c5,v13=.slice a5 k0 c5∧Aside (Below w4.heap.size w4 wx∧wx.ownsRow w4.heap.size 128 2 (.slice a5 k0 c5) k0 (abx (ps.take k0))))
                    case first=>
                      have hr40:w4.ownsRow w4.heap.size 128 2 (.slice none 0 0) 0 []:=World.ownsRow_nil _ _ _ _
                      have hl1:0+k0≤1048576:=by omega
                      rcases HMA.out with ⟨rfl,hz,rfl⟩ | ⟨gm,rfl,hcm⟩
                      · have HK00:Hid (k0=0):=by show _=_;omega
                        have hk00:(k0:Int)≤0:=by omega
                        clear hz
                        go_wp2_with (first | (at_builtin;refine abf rfl _ _ rfl w4.heap.size _ 0 [] rfl hr40 none k0 _ (abx (ps.take k0)) rfl HN1.out (fun h=>absurd HK00.out h) HO1.out hl1 (Nat.le_refl _) ?_;intro a5 c5 w5 hr5 hg5))
                        go_meet
                        case rel=>exact⟨a5,c5,by simp,(Below.refl _ w4).grown hg5 (Nat.le_refl _) (fun k hk=>by cases hk),by simpa using hr5⟩
                      · have hcmz:(k0:Int)≤(mc:Int):=by omega
                        have HCL1:Aside (∀j u,(abx (ps.take k0))[j]? =some u→w4.cell? ((⟨gm,0,none⟩:Addr).add j)=some u):=(flatE_cells (by rw[HPSL.out];exact(HPSL.out▸HJ5.out.ents)) k0 (by rw[HPSL.out];exact hk0)).1
                        go_wp2_with (first | (at_builtin;refine abf rfl _ _ rfl w4.heap.size _ 0 [] rfl hr40 (some ⟨gm,0,none⟩) k0 _ (abx (ps.take k0)) rfl HN1.out (fun _=>⟨⟨gm,0,none⟩,rfl,HCL1.out⟩) HO1.out hl1 (Nat.le_refl _) ?_;intro a5 c5 w5 hr5 hg5))
                        go_meet
                        case rel=>exact⟨a5,c5,by simp,(Below.refl _ w4).grown hg5 (Nat.le_refl _) (fun k hk=>by cases hk),by simpa using hr5⟩
                    case rest=>
                      obtain⟨a5,c5,rfl,HR5⟩:=hcut
                      have hm5:=HM5.out.below HR5.out.1 HM5.out.lt
                      have p0:wc.cell? ⟨MB,0,none⟩=some (.slice pa pts.length pc):=hm5.cell 0
                      have p1:wc.cell? ⟨MB,1,none⟩=some (.slice ea els.length ec):=hm5.cell 1
                      have hl3:k0+1≤1048576:=by omega
                      have hsz5:=HR5.out.1.size
                      have hb5a:=HR5.out.1.alloc hsz5 (.cells #[.slice pa pts.length pc,.slice ea els.length ec] 128)
                      have HR5a:Aside ((wc.alloc (.cells #[.slice pa pts.length pc,.slice ea els.length ec] 128)).ownsRow w4.heap.size 128 2 (.slice a5 k0 c5) k0 (abx (ps.take k0))):=World.ownsRow.alloc HR5.out.2 _
                      have hX1:=Blk.new wc 128 #[.slice pa pts.length pc,.slice ea els.length ec]
                      have HCX:Aside (∀j u,([.slice pa pts.length pc,.slice ea els.length ec]:List Value)[j]? =some u→(wc.alloc (.cells #[.slice pa pts.length pc,.slice ea els.length ec] 128)).cell? ((⟨wc.heap.size,0,none⟩:Addr).add j)=some u):=fun j u hu=>by
                        rw[Go.WideShapes.add_plain,Nat.zero_add,hX1.cell j]
                        simpa using hu
                      have hOX: ∀u∈([.slice pa pts.length pc,.slice ea els.length ec]:List Value),u.oneCell'=true:=by intro u hu;simp at hu;rcases hu with rfl | rfl<;>rfl
                      have hsz5a:=hb5a.size
                      clear hm5 q0 q1 x0 hX1
                      go_upto_region 25 with (first | (at_builtin;refine abf rfl _ _ rfl w4.heap.size _ k0 (abx (ps.take k0)) rfl HR5a.out (some ⟨wc.heap.size,0,none⟩) 1 _ [.slice pa pts.length pc,.slice ea els.length ec] rfl rfl (fun _=>⟨_,rfl,HCX.out⟩) hOX hl3 hsz5a ?_;intro a6 c6 w6 hr6 hg6))
                      have hb6:Below w4.heap.size w4 w6:=hb5a.grown hg6 hsz5a (fun k hk=>(aah HR5a.out hk).1)
                      have HR6:Aside (Below w4.heap.size w4 w6∧w6.ownsRow w4.heap.size 128 2 (.slice a6 (k0+1) c6) (k0+1) (abx (ps.take k0)++[.slice pa pts.length pc,.slice ea els.length ec])):=⟨hb6,hr6⟩
                      have x6:w6.cell? ⟨w.heap.size+1,0,none⟩=some (.slice ma acc.length mc):=(HJ5.out.go hb6).box.cell 0
                      have hsz6:=hb6.size
                      clear hg6 hr6 hb6 p0 p1 hl3 hsz5 HR5 HR5a HCX hOX hsz5a hb5a
                      -- what the box holds behind it
                      have HBOX:Aside (∀(a7:Option Addr) (n7 c7:Nat) (w7:World),Below w4.heap.size w4 w7→w7.ownsRow w4.heap.size 128 2 (.slice a7 n7 c7) n7 (abx (ps.take k0)++[.slice pa pts.length pc,.slice ea els.length ec]++abx (ps.drop k0))→n7=acc.length+1→
                          LE w (.slice (some ⟨gl,0,none⟩) C.length cl) C (l.take k0++[(pts,els)]++l.drop k0) (.slice a7 (acc.length+1) c7) (ps.take k0++[((pts,els),.slice pa pts.length pc,.slice ea els.length ec)]++ps.drop k0) (w7.setCell ⟨w.heap.size+1,0,none⟩ (.slice a7 (acc.length+1) c7))):=fun a7 n7 c7 w7 hb7 hr7 hn7=>by
                        subst hn7
                        have hl:(ps.take k0++[(((pts,els),.slice pa pts.length pc,.slice ea els.length ec):EV)]++ps.drop k0).length=acc.length+1:=by
                          simp only[List.length_append,List.length_take,List.length_drop,List.length_singleton]
                          rw[HPSL.out];omega
                        refine(HJ5.out.go hb7).put (b:=w4.heap.size) ?_ HJ5.out.below.size ?_ ?_
                        · rw[hl,agn,agn]
                          exact hr7
                        · intro x hx
                          rcases List.mem_append.1 hx with hx | hx
                          · rcases List.mem_append.1 hx with hx | hx
                            · have hm:=List.mem_of_mem_take hx
                              exact⟨aac (HJ5.out.parts x hm).1 hb7,aac (HJ5.out.parts x hm).2 hb7⟩
                            · rw[List.mem_singleton] at hx
                              subst hx
                              exact⟨aac HOP5.out hb7,aac HOE5.out hb7⟩
                          · have hm:=List.mem_of_mem_drop hx
                            exact⟨aac (HJ5.out.parts x hm).1 hb7,aac (HJ5.out.parts x hm).2 hb7⟩
                        · rw[←HJ5.out.is]
                          simp
                      have HX7:Aside (∀(w7:World),Below w4.heap.size w4 w7→w7.cell? ⟨w.heap.size+1,0,none⟩=some (.slice ma acc.length mc)∧w7.frozen? ⟨w.heap.size+1,0,none⟩=false):=fun w7 hb7=>⟨(HJ5.out.go hb7).box.cell 0,(HJ5.out.go hb7).box.frozen 0⟩
                      have hl2:k0+1+(acc.length-k0)≤1048576:=by omega
                      rcases HMA.out with ⟨rfl,hz,rfl⟩ | ⟨gm,rfl,hcm⟩
                      · have HK00:Hid (k0=0∧acc.length=0):=⟨by omega,hz⟩
                        have hk00:(k0:Int)≤(acc.length:Int):=by omega
                        clear hz
                        go_wp2_with (first | (at_builtin;refine abf rfl _ _ rfl w4.heap.size _ (k0+1) _ rfl HR6.out.2 _ (acc.length-k0) _ (abx (ps.drop k0)) rfl HN2.out (fun h=>absurd (by have:=HK00.out;omega) h) HO2.out hl2 hsz6 ?_;intro a7 c7 w7 hr7 hg7;have hb7:Below w4.heap.size w4 w7:=HR6.out.1.grown hg7 hsz6 (fun k hk=>(aah HR6.out.2 hk).1);have x7:=(HX7.out w7 hb7).1;have xz7:=(HX7.out w7 hb7).2))
                        have e7:k0+1+(acc.length-k0)=acc.length+1:=by omega
                        have e8:(acc++[(pts,els)]).length=acc.length+1:=by simp
                        have hL:=HBOX.out a7 _ c7 w7 hb7 hr7 e7
                        have HJ9:Aside (LE w (.slice (some ⟨gl,0,none⟩) C.length cl) C (l.take k0++[(pts,els)]++l.drop k0) (.slice a7 (acc++[(pts,els)]).length c7) (ps.take k0++[((pts,els),.slice pa pts.length pc,.slice ea els.length ec)]++ps.drop k0) (w7.setCell ⟨w.heap.size+1,0,none⟩ (.slice a7 (k0+1+(acc.length-k0)) c7))):=by rw[e7,e8];exact hL
                        clear hL x7 xz7 hr7 hg7 e7 e8
                        go_roundg (C.length-(j+1))
                        case measure=>omega
                        case rel=>exact⟨j+1,acc++[(pts,els)],_,a7,c7,_,by first | rfl | go_num,by omega,by omega,by simp;omega,HSO2,HJ9,HK2⟩
                      · have hcmz:(k0:Int)≤(acc.length:Int):=by omega
                        have hcl2:=(flatE_cells (by rw[HPSL.out];exact(HPSL.out▸HJ5.out.ents)) k0 (by rw[HPSL.out];exact hk0))
                        have HCL2:Aside (∀j u,(abx (ps.drop k0))[j]? =some u→w6.cell? ((⟨gm,k0*2,none⟩:Addr).add j)=some u):=fun j u hu=>by
                          have:=hcl2.2.1 j u hu
                          rw[Go.WideShapes.add_plain] at this⊢
                          exact(HR6.out.1.cell (p:=⟨gm,k0*2+j,none⟩) hcl2.2.2.2.1).trans this
                        clear hcl2
                        by_cases hk9:mc=k0
                        · have HE9:Hid (acc.length-k0=0):=by show _=_;omega
                          go_wp2_with (first | (at_builtin;refine abf rfl _ _ rfl w4.heap.size _ (k0+1) _ rfl HR6.out.2 _ (acc.length-k0) _ (abx (ps.drop k0)) rfl HN2.out (fun h=>absurd HE9.out h) HO2.out hl2 hsz6 ?_;intro a7 c7 w7 hr7 hg7;have hb7:Below w4.heap.size w4 w7:=HR6.out.1.grown hg7 hsz6 (fun k hk=>(aah HR6.out.2 hk).1);have x7:=(HX7.out w7 hb7).1;have xz7:=(HX7.out w7 hb7).2))
                          have e7:k0+1+(acc.length-k0)=acc.length+1:=by omega
                          have e8:(acc++[(pts,els)]).length=acc.length+1:=by simp
                          have hL:=HBOX.out a7 _ c7 w7 hb7 hr7 e7
                          have HJ9:Aside (LE w (.slice (some ⟨gl,0,none⟩) C.length cl) C (l.take k0++[(pts,els)]++l.drop k0) (.slice a7 (acc++[(pts,els)]).length c7) (ps.take k0++[((pts,els),.slice pa pts.length pc,.slice ea els.length ec)]++ps.drop k0) (w7.setCell ⟨w.heap.size+1,0,none⟩ (.slice a7 (k0+1+(acc.length-k0)) c7))):=by rw[e7,e8];exact hL
                          clear hL x7 xz7 hr7 hg7 e7 e8
                          go_roundg (C.length-(j+1))
                          case measure=>omega
                          case rel=>exact⟨j+1,acc++[(pts,els)],_,a7,c7,_,by first | rfl | go_num,by omega,by omega,by simp;omega,HSO2,HJ9,HK2⟩
                        · go_wp2_with (first | (at_builtin;refine abf rfl _ _ rfl w4.heap.size _ (k0+1) _ rfl HR6.out.2 _ (acc.length-k0) _ (abx (ps.drop k0)) rfl HN2.out (fun h=>⟨⟨gm,k0*2,none⟩,by first | rfl | simp,HCL2.out⟩) HO2.out hl2 hsz6 ?_;intro a7 c7 w7 hr7 hg7;have hb7:Below w4.heap.size w4 w7:=HR6.out.1.grown hg7 hsz6 (fun k hk=>(aah HR6.out.2 hk).1);have x7:=(HX7.out w7 hb7).1;have xz7:=(HX7.out w7 hb7).2))
                          have e7:k0+1+(acc.length-k0)=acc.length+1:=by omega
                          have e8:(acc++[(pts,els)]).length=acc.length+1:=by simp
                          have hL:=HBOX.out a7 _ c7 w7 hb7 hr7 e7
                          have HJ9:Aside (LE w (.slice (some ⟨gl,0,none⟩) C.length cl) C (l.take k0++[(pts,els)]++l.drop k0) (.slice a7 (acc++[(pts,els)]).length c7) (ps.take k0++[((pts,els),.slice pa pts.length pc,.slice ea els.length ec)]++ps.drop k0) (w7.setCell ⟨w.heap.size+1,0,none⟩ (.slice a7 (k0+1+(acc.length-k0)) c7))):=by rw[e7,e8];exact hL
                          clear hL x7 xz7 hr7 hg7 e7 e8
                          go_roundg (C.length-(j+1))
                          case measure=>omega
                          case rel=>exact⟨j+1,acc++[(pts,els)],_,a7,c7,_,by first | rfl | go_num,by omega,by omega,by simp;omega,HSO2,HJ9,HK2⟩
          · have HF:Hid (ado s.data.toList=.error (60,(j:Int)+1)):=by show _=_;rw[HRL.out,←HK.out];exact tab_none hltC (by rw[←HT.out];exact hst') (by rw[←HT.out];exact hent)
            have HJ3:Aside (LE w (.slice (some ⟨gl,0,none⟩) C.length cl) C l (.slice ma acc.length mc) ps (w2.alloc (.cells #[.slice pa pn pc,.slice ea en ec] 128))):=HJ3'
            clear hsil hline hb2 HJ2 HK hent hst' HJ
            go_upto_region 10 with fail
            generalize w2.alloc (.cells #[.slice pa pn pc,.slice ea en ec] 128)=w3 at HJ3 HJ3'⊢
            have r0:w3.cell? ⟨w.heap.size,0,none⟩=some (.slice none 0 0):=HJ3'.res.cell 0
            have rz:=HJ3'.res.frozen 0
            clear HJ3' hM3 hb3
            go_wp2_with fail
            refine bodyPost_ret (abq (HJ3.out.res.set 0 (.slice none 0 0)) rfl rfl rfl) rfl ?_
            exact⟨HJ3.out.below.setCell (p:=⟨w.heap.size,0,none⟩) (Nat.le_refl _) _,.inl ⟨_,_,HF.out,rfl⟩⟩
      · obtain rfl:j=kl:=by omega
        have hjz: ¬(j:Int)<(j:Int):=by omega
        have HF:Hid (ado s.data.toList=.ok acc):=by show _=_;rw[HRL.out,←HK.out];exact tab_end (by rw[←HKL.out];exact Nat.le_refl _)
        have r0:wr.cell? ⟨w.heap.size,0,none⟩=some (.slice none 0 0):=HJ.out.res.cell 0
        have rz:=HJ.out.res.frozen 0
        have hxb:wr.cell? ⟨w.heap.size+1,0,none⟩=some (.slice ma acc.length mc):=HJ.out.box.cell 0
        clear HK
        go_wp2_with fail
        refine bodyPost_ret (abq (HJ.out.res.set 0 (.slice ma acc.length mc)) rfl rfl rfl) rfl ?_
        exact⟨HJ.out.below.setCell (p:=⟨w.heap.size,0,none⟩) (Nat.le_refl _) _,.inr ⟨acc,l,_,_,_,HF.out,HSO.out.1,HSO.out.2.1,rfl,HJ.out.fin2 _⟩⟩
theorem findT_mem {E:List Ent}(hnd:(E.map Prod.fst).Nodup){x:Ent}(h:x∈E):acm E x.1=some x.2:=by
 induction E with
 | nil=>cases h
 | cons a r ih=>
  rw[List.map_cons,List.nodup_cons] at hnd
  unfold acm
  rw[List.find?_cons]
  rcases List.mem_cons.1 h with rfl | h
  ·simp
  ·have hne:a.1≠x.1:=fun e=>hnd.1 (by rw[e];exact List.mem_map_of_mem h)
   have hb:(a.1==x.1)=false:=by simpa using hne
   rw[hb]
   exact ih hnd.2 h
theorem findT_none {E:List Ent}{p:List Int}(h: ∀x∈E,x.1≠p):acm E p=none:=by
 unfold acm
 rw[Option.map_eq_none_iff,List.find?_eq_none]
 intro x hx
 simpa using h x hx
theorem findT_perm {l E:List Ent}(hp:l.Perm E)(hnd:(E.map Prod.fst).Nodup)(p:List Int):acm l p=acm E p:=by
 by_cases h: ∃x∈E,x.1=p
 ·obtain⟨x,hx,rfl⟩:=h
  rw[findT_mem hnd hx,findT_mem ((hp.map Prod.fst).nodup_iff.2 hnd) (hp.mem_iff.2 hx)]
 ·have h2: ∀x∈E,x.1≠p:=fun x hx e=>h ⟨x,hx,e⟩
  rw[findT_none h2,findT_none fun x hx=>h2 x (hp.mem_iff.1 hx)]
theorem riseE_nodup {l:List Ent}(h:RiseE l):(l.map Prod.fst).Nodup:=List.Pairwise.imp (fun {a b} hab e=>by rw[e,af5] at hab;omega) h
def RFindPost (n₀:Nat)(r:Option (List El))(w:World)(e:Ending)(w':World):Prop:=
 Below w.heap.size w w'∧match r with
  | none=>e=.returned (.tuple #[.slice none 0 0,.bool false])
  | some l=> ∃v,e=.returned (.tuple #[v,.bool true])∧Els n₀ w' v l
theorem results33_run {tmps:Array Value}{w:World}{a b:Value}(t2:tmps[4]?.getD undef=a)(t3:tmps[5]?.getD undef=b):(results Tryz.f211 tmps).run Tryz.prog w=.ok (.tuple #[a,b]) w:=by
 simp[results,Tryz.results211,go_sem,t2,t3]
set_option maxHeartbeats 4000000 in
set_option maxRecDepth 20000 in
theorem refFindE_any (l:List Ent)(hrise:RiseE l)(hll:l.length≤1048576)(hls: ∀e∈l,e.1.length≤4194304)(v pv:Value)(p:List Int)(hpl:p.length≤4194304)(n₀ n₁:Nat)(h01:n₀≤n₁)(w:World)(hn₁:n₁≤w.heap.size)(hin:NIn n₀ w v l)(hp:Ints n₁ w pv p):
  Calls Tryz.prog 211 #[.agg #[v],pv] w fun e w'=>RFindPost n₀ (acm l p) w e w':=by
 have hn₀:n₀≤w.heap.size:=Nat.le_trans h01 hn₁
 obtain⟨a,cap,rfl⟩:=hin.val
 have hb0:=(Below.refl w.heap.size w).alloc (Nat.le_refl _) (.cells #[.slice a l.length cap] 31)
 have hbn:=Blk.new w 31 #[.slice a l.length cap]
 have HIN:Hid (NIn n₀ w (.slice a l.length cap) l):=hin
 obtain⟨R,hR⟩: ∃R,R=acm l p:=⟨_,rfl⟩
 have HR:Hid (R=acm l p):=hR
 rw[←hR]
 have hsz:(w.alloc (.cells #[.slice a l.length cap] 31)).heap.size=w.heap.size+1:=by simp
 have hc:=refPlaceE_any l hrise hll hls (.slice a l.length cap) pv p hpl n₁ (w.alloc (.cells #[.slice a l.length cap] 31)) (by omega) ((hin.below hb0 hn₀).mono h01) (hp.below hb0 hn₁)
 have HRI:Hid (RiseE l):=hrise
 clear hR hsz hin hp hrise hls
 go_enter Tryz.func211,Tryz.ntmps211
 go_upto_region 1 with fail
 generalize w.alloc (.cells #[.slice a l.length cap] 31)=W at hb0 hbn hc⊢
 have e0:W.cell? ⟨w.heap.size,0,none⟩=some (.slice a l.length cap):=hbn.cell 0
 go_wp2_with fail
 refine hc.mono ?_
 clear hc e0
 rintro e w1 ⟨k,b,hpl,rfl,hb,hbw⟩
 have HBW:Hid (Below w.heap.size w w1):=hb0.trans (hbw.mono hb0.size)
 rcases hb with ⟨rfl,hk,he⟩ | ⟨rfl,hno⟩
 ·have hr:R=some (l[k]).2:=by rw[HR.out,←he];exact findT_mem (riseE_nodup HRI.out) (List.getElem_mem hk)
  obtain⟨ab,off,ea,hlt,hcx⟩: ∃ab off,a=some ⟨ab,off,none⟩∧ab<n₀∧ ∃ev,w.cell? ⟨ab,off+k*2+1,none⟩=some ev∧Els n₀ w ev (l[k]).2:=by
   rcases HIN.out with ⟨_,_,_,e⟩ | ⟨ab,off,c,e,hb,hc⟩
   ·subst e;exact absurd hk (by simp)
   ·obtain⟨pv,ev,_,_,h3,h4⟩:=hc k hk
    exact⟨ab,off,(Value.slice.inj e).1,hb,ev,h3,h4⟩
  obtain⟨ev,h3,h4⟩:=hcx
  subst ea hr
  have q0:w1.cell? ⟨w.heap.size,0,none⟩=some (.slice (some ⟨ab,off,none⟩) l.length cap):=(hbw.cell (p:=⟨w.heap.size,0,none⟩) hbn.lt).trans (hbn.cell 0)
  have q1:w1.cell? ⟨ab,off+k*2+1,none⟩=some ev:=(HBW.out.cell (p:=⟨ab,_,none⟩) (show ab<w.heap.size by omega)).trans h3
  have HE:Hid (Els n₀ w1 ev (l[k]).2):=h4.below HBW.out hn₀
  obtain⟨ln,hln⟩: ∃ln,l.length=ln:=⟨_,rfl⟩
  obtain⟨va,vc,rfl⟩:=h4.val
  generalize (l[k]).2.length=m at q1 HE
  have hkn:k<ln:=by omega
  rw[hln] at q0
  clear h3 h4 HR HIN HRI hpl hbn hb0 hbw he
  go_wp2
  refine bodyPost_ret (results33_run rfl rfl) rfl ?_
  exact⟨HBW.out,_,rfl,HE.out⟩
 ·have hr:R=none:=by
   rw[HR.out]
   refine findT_none fun x hx=> ?_
   obtain⟨i,hi,rfl⟩:=List.mem_iff_getElem.1 hx
   exact hno i hi
  subst hr
  clear HR HIN HRI hpl hno
  go_wp2
  refine bodyPost_ret (results33_run rfl rfl) rfl ?_
  exact⟨HBW.out,rfl⟩
end Go.Proofs.YtpfkoldfbecdlaaGreatDoor
