/- Contracts and lemmas (nothing is claimed here). -/
import Derived.Test.YtfhpgmlfgjfknaaGreatDoorTLdA
namespace Go.Proofs.YtfhpgmlfgjfknaaGreatDoor
open Go.RowKit Go.Vf Go.Maps
def ar8 (t:List UInt8)(w:World)(e:Ending)(w':World):Prop:=Below w.heap.size w w'∧
  ((∃why line,ab9 t=.error (why,line)∧e=.returned (.tuple #[.agg #[.slice none 0 0],.int .i64 why,.int .i64 line]))∨
   (∃E l a n c,ab9 t=.ok E∧am0 l∧l.Perm E∧e=.returned (.tuple #[.agg #[.slice a n c],.int .i64 0,.int .i64 0])∧NOwn w' w.heap.size (.slice a n c) l))
set_option maxHeartbeats 16000000 in
set_option maxRecDepth 20000 in
theorem aqh (s:ByteArray)(hbig:s.size≤281474976710656)(w:World):Calls Tryz.prog 53 #[.string s] w fun e w'=>ar8 s.data.toList w e w':=by
  have HSL:Hid (s.data.toList.length=s.size):=(Lib.size_eq s).symm
  have hb0:=(Below.refl w.heap.size w).alloc (Nat.le_refl _) (.cells #[.slice none 0 0] 65)
  have hn0:=Blk.new w 65 #[.slice none 0 0]
  by_cases hlong:65536<s.size
  · have hlz:(65536:Int)<(s.size:Int):=by omega
    have HR:Hid (ab9 s.data.toList=.error (2,0)):=by show _=_;unfold ab9;rw[if_pos (by rw[HSL.out];exact hlong)]
    go_enter Tryz.func53,Tryz.ntmps53
    go_wp2_with fail
    refine bodyPost_ret (abp hn0 rfl rfl rfl) rfl ?_
    exact⟨hb0,.inl ⟨_,_,HR.out,rfl⟩⟩
  · have hlz: ¬(65536:Int)<(s.size:Int):=by omega
    have hs:s.size≤65536:=by omega
    have hb1:=hb0.alloc (by simp) (.cells #[.slice none 0 0] 65)
    have hn1:=Blk.new (w.alloc (.cells #[.slice none 0 0] 65)) 65 #[.slice none 0 0]
    have hn0':Blk ((w.alloc (.cells #[.slice none 0 0] 65)).alloc (.cells #[.slice none 0 0] 65)) w.heap.size 65 #[.slice none 0 0]:=hn0.below ((Below.refl _ _).alloc (Nat.le_refl _) _) (by simp)
    rw[show (w.alloc (.cells #[.slice none 0 0] 65)).heap.size=w.heap.size+1 by simp] at hn1
    go_enter Tryz.func53,Tryz.ntmps53
    go_upto_region 4 with fail
    generalize (w.alloc (.cells #[.slice none 0 0] 65)).alloc (.cells #[.slice none 0 0] 65)=W at hb1 hn1 hn0'⊢
    clear hn0 hb0
    go_wp2_with fail
    refine(aj9 s hs W).mono ?_
    rintro e w1 ⟨al,kl,cl,rfl,hol,hbl⟩
    obtain⟨C,hC⟩: ∃C,C=aa3 (10:UInt8) s.data.toList:=⟨_,rfl⟩
    rw[←hC] at hol
    have HC:Hid (C=aa3 (10:UInt8) s.data.toList):=hC
    have HCS:Aside (∀x∈C,x.length≤65536):=fun x hx=>by rw[hC] at hx;exact Nat.le_trans (abj 10 _ x hx) (by rw[HSL.out];exact hs)
    have hkl:kl=C.length:=by obtain⟨_,_,e⟩:=aax hol;cases e;rfl
    have HKL:Hid (kl=C.length):=hkl
    have hkl2:kl≤65537:=by rw[hkl,hC];have:=abl 10 s.data.toList;rw[HSL.out] at this;omega
    have HJ0:Aside (LE w (.slice al kl cl) C [] (.slice none 0 0) [] w1):=
      ⟨hn0'.below hbl hn0'.lt,hn1.below hbl hn1.lt,aai hol hb1.size,World.ownsRow_nil _ _ _ _,by simp,rfl,hb1.trans (hbl.mono hb1.size)⟩
    obtain⟨RL,hRL⟩: ∃RL,aey C 0 []=RL:=⟨_,rfl⟩
    have HRL:Hid (ab9 s.data.toList=RL):=by show _=_;unfold ab9;rw[if_neg (by rw[HSL.out];omega),←HC.out,hRL]
    have H0:Hid (aey (C.drop 0) ((0:Nat):Int) []=RL):=hRL
    clear hC hkl hRL hol hbl hn0' hn1 hb1
    go_wp2_with fail
    go_loopg [7] kl (fun g1 v7 wr=> ∃(j:Nat) (acc l:List Ent) (ma:Option Addr) (mc:Nat) (ps:List EV),v7=.int .i64 j∧j≤kl∧kl-j≤g1∧acc.length≤4096∧Hid (am0 l∧l.Perm acc∧ ∀e∈l,e.1.length≤8)∧Aside (LE w (.slice al kl cl) C l (.slice ma acc.length mc) ps wr)∧Hid (aey (C.drop j) (j:Int) acc=RL))
    case atStart=>exact⟨0,[],[],none,0,[],rfl,Nat.zero_le _,by omega,by simp,⟨by simp[am0],List.Perm.refl _,by simp⟩,HJ0,H0⟩
    case round=>
      clear HJ0 H0
      obtain⟨j,acc,l,ma,mc,ps,rfl,hjk,hg1,hacc,HSO,HJ,HK⟩:=hrel
      have hll:Hid (l.length=acc.length):=HSO.out.2.1.length_eq
      by_cases hlt:j<kl
      · have hltz:(j:Int)<(kl:Int):=by omega
        have hltC:j<C.length:=by rw[←HKL.out];exact hlt
        obtain⟨gl,cpl,el,hgl,hgl2,hcl⟩:=HJ.out.lines.cells (by omega)
        cases el
        have hcj:=hcl j hltC
        have hlen:=HCS.out C[j] (List.getElem_mem hltC)
        obtain⟨t,ht⟩: ∃t,t=C[j]:=⟨_,rfl⟩
        rw[←ht] at hcj hlen
        have HT:Hid (t=C[j]):=ht
        have hsil:=anc (bsz t) wr
        rw[show (bsz t).data.toList=t from rfl] at hsil
        clear hcl ht
        by_cases hst:aav t=true
        · rw[hst] at hsil
          have HK2:Hid (aey (C.drop (j+1)) ((j+1:Nat):Int) acc=RL):=by
            show _=_
            rw[←HK.out,awe hltC (by rw[←HT.out];exact hst)];rfl
          clear HK hst
          go_wp2_with fail
          refine hsil.mono ?_
          rintro e wq ⟨rfl,rfl⟩
          go_wp2
          go_roundg (C.length-(j+1))
          case measure=>omega
          case rel=>exact⟨j+1,acc,l,ma,mc,ps,by first | rfl | go_num,by omega,by omega,hacc,HSO,HJ,HK2⟩
        · have hst':aav t=false:=by simpa using hst
          rw[hst'] at hsil
          clear hst
          have hline:=aqi (bsz t) (by rw[abt];exact hlen) wr
          rw[show (bsz t).data.toList=t from rfl] at hline
          go_wp2_with fail
          refine hsil.mono ?_
          rintro e wq ⟨rfl,rfl⟩
          go_wp2_with fail
          refine hline.mono ?_
          rintro e w2 ⟨hb2,pa,pn,pc,ea,en,ec,ok,rfl,hcase⟩
          have HJ2:=HJ.out.go hb2
          have hb3:=(Below.refl w2.heap.size w2).alloc (Nat.le_refl _) (.cells #[.slice pa pn pc,.slice ea en ec] 160)
          have HJ3':=HJ2.go hb3
          have hM3:=Blk.new w2 160 #[.slice pa pn pc,.slice ea en ec]
          rcases hcase with ⟨rfl,x,hent,hop,hoe⟩ | ⟨rfl,hent⟩
          · obtain⟨pts,els⟩:=x
            obtain⟨_,_,e1⟩:=hop.val
            obtain rfl:pn=pts.length:=(Value.slice.inj e1).2.1
            obtain⟨_,_,e2,_⟩:=hoe.cap
            obtain rfl:en=els.length:=(Value.slice.inj e2).2.1
            clear e1 e2
            have hlens:=a07 hent
            have HEN:Hid (aee C[j]=some (pts,els)):=by show _=_;rw[←HT.out];exact hent
            have HST:Hid (aav C[j]=false):=by show _=_;rw[←HT.out];exact hst'
            have hop3:IOwn _ w.heap.size (.slice pa pts.length pc) pts:=aad (hop.mono HJ.out.below.size) hb3
            have hoe3:EOwn _ w.heap.size (.slice ea els.length ec) els:=aad (aai hoe HJ.out.below.size) hb3
            clear hsil hline hb2 HJ2 hop hoe hent hst' HJ
            go_upto_region 12 with fail
            generalize w2.alloc (.cells #[.slice pa pts.length pc,.slice ea els.length ec] 160)=w3 at HJ3' hM3 hop3 hoe3⊢
            generalize w2.heap.size=MB at hM3⊢
            have HJ3:Aside (LE w (.slice (some ⟨gl,0,none⟩) C.length cl) C l (.slice ma acc.length mc) ps w3):=HJ3'
            have HM3:Aside (Blk w3 MB 160 #[.slice pa pts.length pc,.slice ea els.length ec]):=hM3
            have HOP3:Aside (IOwn w3 w.heap.size (.slice pa pts.length pc) pts):=hop3
            have HOE3:Aside (EOwn w3 w.heap.size (.slice ea els.length ec) els):=hoe3
            clear hb3 HJ3' hM3 hop3 hoe3
            -- the weights
            go_wp2_with fail
            obtain⟨wo,hwo⟩: ∃wo,wo=w3:=⟨_,rfl⟩
            subst hwo
            go_loopg [10] els.length (fun g2 v10 wr=> ∃k:Nat,v10=.int .i64 k∧k≤els.length∧els.length-k≤g2∧Hid ((els.take k).all aah=true)∧Aside (Below wo.heap.size wo wr))
            case atStart=>exact⟨0,rfl,Nat.zero_le _,by omega,by show _=_;simp,Below.refl _ _⟩
            case round=>
              obtain⟨k,rfl,hk,hg2,HAL,HBW⟩:=hrel
              have HJ4:Aside (LE w (.slice (some ⟨gl,0,none⟩) C.length cl) C l (.slice ma acc.length mc) ps wr):=HJ3.out.go HBW.out
              have HM4:Aside (Blk wr MB 160 #[.slice pa pts.length pc,.slice ea els.length ec]):=HM3.out.below HBW.out HM3.out.lt
              have HOP4:Aside (IOwn wr w.heap.size (.slice pa pts.length pc) pts):=aad HOP3.out HBW.out
              have HOE4:Aside (EOwn wr w.heap.size (.slice ea els.length ec) els):=aad HOE3.out HBW.out
              have r0:wr.cell? ⟨w.heap.size,0,none⟩=some (.slice none 0 0):=HJ4.out.res.cell 0
              have rz:=HJ4.out.res.frozen 0
              have m0:wr.cell? ⟨MB,0,none⟩=some (.slice pa pts.length pc):=HM4.out.cell 0
              have m1:wr.cell? ⟨MB,1,none⟩=some (.slice ea els.length ec):=HM4.out.cell 1
              by_cases hkl:k<els.length
              · obtain⟨be,oe,rfl,y0,y1,y2,y3⟩: ∃be oe,ea=some ⟨be,oe,none⟩∧wr.cell? ⟨be,oe+k*4,none⟩=some (.bool els[k].va)∧wr.cell? ⟨be,oe+k*4+1,none⟩=some (.int .i64 els[k].pr)∧wr.cell? ⟨be,oe+k*4+2,none⟩=some (.int .i64 els[k].se)∧wr.cell? ⟨be,oe+k*4+3,none⟩=some (.int .i64 els[k].te):=by
                  rcases HOE4.out.els with ⟨_,_,_,e⟩ | ⟨b,off,c',e,hb,hc⟩
                  · rw[e] at hkl;simp at hkl
                  · cases (Value.slice.inj e).1
                    obtain⟨z0,z1,z2,z3⟩:=hc k hkl
                    exact⟨b,off,rfl,z0,z1,z2,z3⟩
                have hri:=aqf els[k] wr
                have HTK:Hid ((els.take (k+1)).all aah=((els.take k).all aah&&aah els[k])):=by
                  show _=_
                  rw[List.take_add_one,List.getElem?_eq_getElem hkl,List.all_append]
                  simp
                have HMEM:Hid (els[k]∈els):=List.getElem_mem hkl
                generalize els[k]=ek at*
                obtain⟨q1,q2,q3,q4⟩:=ek
                simp only at y0 y1 y2 y3
                have hklz:(k:Int)<(els.length:Int):=by omega
                cases hrb:aah ⟨q1,q2,q3,q4⟩ with
                | true=>
                  rw[hrb] at hri
                  have HAL2:Hid ((els.take (k+1)).all aah=true):=by show _=_;rw[HTK.out,HAL.out,hrb];rfl
                  clear HAL HTK hrb
                  go_wp2_with fail
                  refine hri.mono ?_
                  rintro _ w5 ⟨rfl,hb5⟩
                  go_wp2
                  go_roundg (els.length-(k+1))
                  case measure=>omega
                  case rel=>exact⟨k+1,by first | rfl | go_num,by omega,Nat.le_refl _,HAL2,HBW.out.trans (hb5.mono HBW.out.size)⟩
                | false=>
                  rw[hrb] at hri
                  have HF:Hid (ab9 s.data.toList=.error (62,(j:Int)+1)):=by
                    show _=_
                    rw[HRL.out,←HK.out]
                    refine awd hltC HST.out HEN.out (fun h=> ?_)
                    have:=List.all_eq_true.1 h _ HMEM.out
                    rw[hrb] at this
                    cases this
                  clear HAL HTK hrb HK
                  go_wp2_with fail
                  refine hri.mono ?_
                  rintro _ w5 ⟨rfl,hb5⟩
                  have HJ5:Aside (LE w (.slice (some ⟨gl,0,none⟩) C.length cl) C l (.slice ma acc.length mc) ps w5):=HJ4.out.go hb5
                  clear r0 rz
                  have r0:w5.cell? ⟨w.heap.size,0,none⟩=some (.slice none 0 0):=HJ5.out.res.cell 0
                  have rz:=HJ5.out.res.frozen 0
                  go_wp2_with fail
                  refine bodyPost_ret (abp (HJ5.out.res.set 0 (.slice none 0 0)) rfl rfl rfl) rfl ?_
                  exact⟨HJ5.out.below.setCell (p:=⟨w.heap.size,0,none⟩) (Nat.le_refl _) _,.inl ⟨_,_,HF.out,rfl⟩⟩
              · have hklz: ¬(k:Int)<(els.length:Int):=by omega
                have HW:Hid (els.all aah=true):=by show _=_;rw[←HAL.out,List.take_of_length_le (by omega)]
                clear HAL
                have x0:wr.cell? ⟨w.heap.size+1,0,none⟩=some (.slice ma acc.length mc):=HJ4.out.box.cell 0
                have hpl:=ao1 l HSO.out.1 (by rw[hll.out];omega) (fun e he=>Nat.le_trans (HSO.out.2.2 e he) (by omega)) (.slice ma acc.length mc) (.slice pa pts.length pc) pts (by omega) wr.heap.size wr (Nat.le_refl _) HJ4.out.min HOP4.out.ints
                go_wp2_with fail
                refine hpl.mono ?_
                rintro e w4 ⟨k0,b0,hpa,rfl,hfd,hb4⟩
                have HJ5:Aside (LE w (.slice (some ⟨gl,0,none⟩) C.length cl) C l (.slice ma acc.length mc) ps w4):=HJ4.out.go hb4
                have HM5:Aside (Blk w4 MB 160 #[.slice pa pts.length pc,.slice ea els.length ec]):=HM4.out.below hb4 HM4.out.lt
                have HOP5:Aside (IOwn w4 w.heap.size (.slice pa pts.length pc) pts):=aad HOP4.out hb4
                have HOE5:Aside (EOwn w4 w.heap.size (.slice ea els.length ec) els):=aad HOE4.out hb4
                clear hb4 HJ4 HM4 HOP4 HOE4 hpl r0 rz x0 m0 m1 HBW HJ3 HM3 HOP3 HOE3
                have r0:w4.cell? ⟨w.heap.size,0,none⟩=some (.slice none 0 0):=HJ5.out.res.cell 0
                have rz:=HJ5.out.res.frozen 0
                rcases hfd with ⟨rfl,hk0,hpt⟩ | ⟨rfl,hno⟩
                · -- such points stand there
                  have HF:Hid (ab9 s.data.toList=.error (61,(j:Int)+1)):=by
                    show _=_
                    rw[HRL.out,←HK.out]
                    exact ayp hltC HST.out HEN.out HW.out ((a0q HSO.out.2.1 pts).1 ⟨k0,hk0,hpt⟩)
                  clear HK hk0 hpt hpa
                  go_wp2_with fail
                  refine bodyPost_ret (abp (HJ5.out.res.set 0 (.slice none 0 0)) rfl rfl rfl) rfl ?_
                  exact⟨HJ5.out.below.setCell (p:=⟨w.heap.size,0,none⟩) (Nat.le_refl _) _,.inl ⟨_,_,HF.out,rfl⟩⟩
                · have hany:akf acc pts=false:=by
                    cases h:akf acc pts with
                    | false=>rfl
                    | true=>obtain⟨i,hi,e⟩:=(a0q HSO.out.2.1 pts).2 h;exact absurd e (hno i hi)
                  have x0:w4.cell? ⟨w.heap.size+1,0,none⟩=some (.slice ma acc.length mc):=HJ5.out.box.cell 0
                  by_cases hfull:4096≤acc.length
                  · have hfz:(4096:Int)≤(acc.length:Int):=by omega
                    have HF:Hid (ab9 s.data.toList=.error (2,(j:Int)+1)):=by
                      show _=_
                      rw[HRL.out,←HK.out]
                      exact a2k hltC HST.out HEN.out HW.out hany hfull
                    clear HK hno hpa hany
                    go_wp2_with fail
                    refine bodyPost_ret (abp (HJ5.out.res.set 0 (.slice none 0 0)) rfl rfl rfl) rfl ?_
                    exact⟨HJ5.out.below.setCell (p:=⟨w.heap.size,0,none⟩) (Nat.le_refl _) _,.inl ⟨_,_,HF.out,rfl⟩⟩
                  · have hfz: ¬(4096:Int)≤(acc.length:Int):=by omega
                    have HK2:Hid (aey (C.drop (j+1)) ((j+1:Nat):Int) (acc++[(pts,els)])=RL):=by
                      show _=_
                      rw[←HK.out,a2j hltC HST.out HEN.out HW.out hany (by omega)];rfl
                    have HSO2:Hid (am0 (l.take k0++[(pts,els)]++l.drop k0)∧(l.take k0++[(pts,els)]++l.drop k0).Perm (acc++[(pts,els)])∧ ∀e∈l.take k0++[(pts,els)]++l.drop k0,e.1.length≤8):=⟨ay4 (x:=(pts,els)) HSO.out.1 hpa hno,a2x HSO.out.2.1,fun e he=>by
                      rcases List.mem_append.1 he with he | he
                      · rcases List.mem_append.1 he with he | he
                        · exact HSO.out.2.2 e (List.mem_of_mem_take he)
                        · simp at he;subst he;exact hlens.1
                      · exact HSO.out.2.2 e (List.mem_of_mem_drop he)⟩
                    have hk0:k0≤acc.length:=by have:=hpa.le;rw[hll.out] at this;exact this
                    have hk0z:(k0:Int)≤(acc.length:Int):=by omega
                    have HPSL:Hid (ps.length=acc.length):=by show _=_;have:=congrArg List.length HJ5.out.is;rw[List.length_map,hll.out] at this;exact this
                    clear hany HK hno hpa r0 rz
                    have q0:w4.cell? ⟨MB,0,none⟩=some (.slice pa pts.length pc):=HM5.out.cell 0
                    have q1:w4.cell? ⟨MB,1,none⟩=some (.slice ea els.length ec):=HM5.out.cell 1
                    have HN1:Aside ((ab1 (ps.take k0)).length=k0*2):=by show _=_;rw[al1,List.length_take,HPSL.out];omega
                    have HN2:Aside ((ab1 (ps.drop k0)).length=(acc.length-k0)*2):=by show _=_;rw[al1,List.length_drop,HPSL.out]
                    have HO1:Aside (∀u∈ab1 (ps.take k0),u.oneCell'=true):=ard (fun x hx=>HJ5.out.parts x (List.mem_of_mem_take hx))
                    have HO2:Aside (∀u∈ab1 (ps.drop k0),u.oneCell'=true):=ard (fun x hx=>HJ5.out.parts x (List.mem_of_mem_drop hx))
                    have HMA:Hid ((ma=none∧acc.length=0∧mc=0)∨ ∃g,ma=some ⟨g,0,none⟩∧acc.length≤mc):=by
                      rcases HJ5.out.ents.2 with ⟨e0,hz0⟩ | ⟨gm,cpm,curm,em,hbm,hgm,hcm,_⟩
                      · obtain⟨e1,e2,e3⟩:=Value.slice.inj e0
                        exact .inl ⟨e1,e2,e3⟩
                      · obtain⟨e1,e2,e3⟩:=Value.slice.inj em
                        exact .inr ⟨gm,e1,by rw[e3,←HPSL.out];exact hcm⟩
                    go_upto_region 23 with fail
                    go_cut [13] from 20 to 95 (fun v13 wx=> ∃a5 c5,v13=.slice a5 k0 c5∧Aside (Below w4.heap.size w4 wx∧wx.ownsRow w4.heap.size 160 2 (.slice a5 k0 c5) k0 (ab1 (ps.take k0))))
                    case first=>
                      have hr40:w4.ownsRow w4.heap.size 160 2 (.slice none 0 0) 0 []:=World.ownsRow_nil _ _ _ _
                      have hl1:0+k0≤1048576:=by omega
                      rcases HMA.out with ⟨rfl,hz,rfl⟩ | ⟨gm,rfl,hcm⟩
                      · have HK00:Hid (k0=0):=by show _=_;omega
                        have hk00:(k0:Int)≤0:=by omega
                        clear hz
                        go_wp2_with (first | (at_builtin;refine abg rfl _ _ rfl w4.heap.size _ 0 [] rfl hr40 none k0 _ (ab1 (ps.take k0)) rfl HN1.out (fun h=>absurd HK00.out h) HO1.out hl1 (Nat.le_refl _) ?_;intro a5 c5 w5 hr5 hg5))
                        go_meet
                        case rel=>exact⟨a5,c5,by simp,(Below.refl _ w4).grown hg5 (Nat.le_refl _) (fun k hk=>by cases hk),by simpa using hr5⟩
                      · have hcmz:(k0:Int)≤(mc:Int):=by omega
                        have HCL1:Aside (∀j u,(ab1 (ps.take k0))[j]? =some u→w4.cell? ((⟨gm,0,none⟩:Addr).add j)=some u):=(al2 (by rw[HPSL.out];exact(HPSL.out▸HJ5.out.ents)) k0 (by rw[HPSL.out];exact hk0)).1
                        go_wp2_with (first | (at_builtin;refine abg rfl _ _ rfl w4.heap.size _ 0 [] rfl hr40 (some ⟨gm,0,none⟩) k0 _ (ab1 (ps.take k0)) rfl HN1.out (fun _=>⟨⟨gm,0,none⟩,rfl,HCL1.out⟩) HO1.out hl1 (Nat.le_refl _) ?_;intro a5 c5 w5 hr5 hg5))
                        go_meet
                        case rel=>exact⟨a5,c5,by simp,(Below.refl _ w4).grown hg5 (Nat.le_refl _) (fun k hk=>by cases hk),by simpa using hr5⟩
                    case rest=>
                      obtain⟨a5,c5,rfl,HR5⟩:=hcut
                      have hm5:=HM5.out.below HR5.out.1 HM5.out.lt
                      have p0:wc.cell? ⟨MB,0,none⟩=some (.slice pa pts.length pc):=hm5.cell 0
                      have p1:wc.cell? ⟨MB,1,none⟩=some (.slice ea els.length ec):=hm5.cell 1
                      have hl3:k0+1≤1048576:=by omega
                      have hsz5:=HR5.out.1.size
                      have hb5a:=HR5.out.1.alloc hsz5 (.cells #[.slice pa pts.length pc,.slice ea els.length ec] 160)
                      have HR5a:Aside ((wc.alloc (.cells #[.slice pa pts.length pc,.slice ea els.length ec] 160)).ownsRow w4.heap.size 160 2 (.slice a5 k0 c5) k0 (ab1 (ps.take k0))):=World.ownsRow.alloc HR5.out.2 _
                      have hX1:=Blk.new wc 160 #[.slice pa pts.length pc,.slice ea els.length ec]
                      have HCX:Aside (∀j u,([.slice pa pts.length pc,.slice ea els.length ec]:List Value)[j]? =some u→(wc.alloc (.cells #[.slice pa pts.length pc,.slice ea els.length ec] 160)).cell? ((⟨wc.heap.size,0,none⟩:Addr).add j)=some u):=fun j u hu=>by
                        rw[Go.WideShapes.add_plain,Nat.zero_add,hX1.cell j]
                        simpa using hu
                      have hOX: ∀u∈([.slice pa pts.length pc,.slice ea els.length ec]:List Value),u.oneCell'=true:=by intro u hu;simp at hu;rcases hu with rfl | rfl<;>rfl
                      have hsz5a:=hb5a.size
                      clear hm5 q0 q1 x0 hX1
                      go_upto_region 25 with (first | (at_builtin;refine abg rfl _ _ rfl w4.heap.size _ k0 (ab1 (ps.take k0)) rfl HR5a.out (some ⟨wc.heap.size,0,none⟩) 1 _ [.slice pa pts.length pc,.slice ea els.length ec] rfl rfl (fun _=>⟨_,rfl,HCX.out⟩) hOX hl3 hsz5a ?_;intro a6 c6 w6 hr6 hg6))
                      have hb6:Below w4.heap.size w4 w6:=hb5a.grown hg6 hsz5a (fun k hk=>(aan HR5a.out hk).1)
                      have HR6:Aside (Below w4.heap.size w4 w6∧w6.ownsRow w4.heap.size 160 2 (.slice a6 (k0+1) c6) (k0+1) (ab1 (ps.take k0)++[.slice pa pts.length pc,.slice ea els.length ec])):=⟨hb6,hr6⟩
                      have x6:w6.cell? ⟨w.heap.size+1,0,none⟩=some (.slice ma acc.length mc):=(HJ5.out.go hb6).box.cell 0
                      have hsz6:=hb6.size
                      clear hg6 hr6 hb6 p0 p1 hl3 hsz5 HR5 HR5a HCX hOX hsz5a hb5a
                      -- what the box holds behind it
                      have HBOX:Aside (∀(a7:Option Addr) (n7 c7:Nat) (w7:World),Below w4.heap.size w4 w7→w7.ownsRow w4.heap.size 160 2 (.slice a7 n7 c7) n7 (ab1 (ps.take k0)++[.slice pa pts.length pc,.slice ea els.length ec]++ab1 (ps.drop k0))→n7=acc.length+1→
                          LE w (.slice (some ⟨gl,0,none⟩) C.length cl) C (l.take k0++[(pts,els)]++l.drop k0) (.slice a7 (acc.length+1) c7) (ps.take k0++[((pts,els),.slice pa pts.length pc,.slice ea els.length ec)]++ps.drop k0) (w7.setCell ⟨w.heap.size+1,0,none⟩ (.slice a7 (acc.length+1) c7))):=fun a7 n7 c7 w7 hb7 hr7 hn7=>by
                        subst hn7
                        have hl:(ps.take k0++[(((pts,els),.slice pa pts.length pc,.slice ea els.length ec):EV)]++ps.drop k0).length=acc.length+1:=by
                          simp only[List.length_append,List.length_take,List.length_drop,List.length_singleton]
                          rw[HPSL.out];omega
                        refine(HJ5.out.go hb7).put (b:=w4.heap.size) ?_ HJ5.out.below.size ?_ ?_
                        · rw[hl,ag9,ag9]
                          exact hr7
                        · intro x hx
                          rcases List.mem_append.1 hx with hx | hx
                          · rcases List.mem_append.1 hx with hx | hx
                            · have hm:=List.mem_of_mem_take hx
                              exact⟨aad (HJ5.out.parts x hm).1 hb7,aad (HJ5.out.parts x hm).2 hb7⟩
                            · rw[List.mem_singleton] at hx
                              subst hx
                              exact⟨aad HOP5.out hb7,aad HOE5.out hb7⟩
                          · have hm:=List.mem_of_mem_drop hx
                            exact⟨aad (HJ5.out.parts x hm).1 hb7,aad (HJ5.out.parts x hm).2 hb7⟩
                        · rw[←HJ5.out.is]
                          simp
                      have HX7:Aside (∀(w7:World),Below w4.heap.size w4 w7→w7.cell? ⟨w.heap.size+1,0,none⟩=some (.slice ma acc.length mc)∧w7.frozen? ⟨w.heap.size+1,0,none⟩=false):=fun w7 hb7=>⟨(HJ5.out.go hb7).box.cell 0,(HJ5.out.go hb7).box.frozen 0⟩
                      have hl2:k0+1+(acc.length-k0)≤1048576:=by omega
                      rcases HMA.out with ⟨rfl,hz,rfl⟩ | ⟨gm,rfl,hcm⟩
                      · have HK00:Hid (k0=0∧acc.length=0):=⟨by omega,hz⟩
                        have hk00:(k0:Int)≤(acc.length:Int):=by omega
                        clear hz
                        go_wp2_with (first | (at_builtin;refine abg rfl _ _ rfl w4.heap.size _ (k0+1) _ rfl HR6.out.2 _ (acc.length-k0) _ (ab1 (ps.drop k0)) rfl HN2.out (fun h=>absurd (by have:=HK00.out;omega) h) HO2.out hl2 hsz6 ?_;intro a7 c7 w7 hr7 hg7;have hb7:Below w4.heap.size w4 w7:=HR6.out.1.grown hg7 hsz6 (fun k hk=>(aan HR6.out.2 hk).1);have x7:=(HX7.out w7 hb7).1;have xz7:=(HX7.out w7 hb7).2))
                        have e7:k0+1+(acc.length-k0)=acc.length+1:=by omega
                        have e8:(acc++[(pts,els)]).length=acc.length+1:=by simp
                        have hL:=HBOX.out a7 _ c7 w7 hb7 hr7 e7
                        have HJ9:Aside (LE w (.slice (some ⟨gl,0,none⟩) C.length cl) C (l.take k0++[(pts,els)]++l.drop k0) (.slice a7 (acc++[(pts,els)]).length c7) (ps.take k0++[((pts,els),.slice pa pts.length pc,.slice ea els.length ec)]++ps.drop k0) (w7.setCell ⟨w.heap.size+1,0,none⟩ (.slice a7 (k0+1+(acc.length-k0)) c7))):=by rw[e7,e8];exact hL
                        clear hL x7 xz7 hr7 hg7 e7 e8
                        go_roundg (C.length-(j+1))
                        case measure=>omega
                        case rel=>exact⟨j+1,acc++[(pts,els)],_,a7,c7,_,by first | rfl | go_num,by omega,by omega,by simp;omega,HSO2,HJ9,HK2⟩
                      · have hcmz:(k0:Int)≤(acc.length:Int):=by omega
                        have hcl2:=(al2 (by rw[HPSL.out];exact(HPSL.out▸HJ5.out.ents)) k0 (by rw[HPSL.out];exact hk0))
                        have HCL2:Aside (∀j u,(ab1 (ps.drop k0))[j]? =some u→w6.cell? ((⟨gm,k0*2,none⟩:Addr).add j)=some u):=fun j u hu=>by
                          have:=hcl2.2.1 j u hu
                          rw[Go.WideShapes.add_plain] at this⊢
                          exact(HR6.out.1.cell (p:=⟨gm,k0*2+j,none⟩) hcl2.2.2.2.1).trans this
                        clear hcl2
                        by_cases hk9:mc=k0
                        · have HE9:Hid (acc.length-k0=0):=by show _=_;omega
                          go_wp2_with (first | (at_builtin;refine abg rfl _ _ rfl w4.heap.size _ (k0+1) _ rfl HR6.out.2 _ (acc.length-k0) _ (ab1 (ps.drop k0)) rfl HN2.out (fun h=>absurd HE9.out h) HO2.out hl2 hsz6 ?_;intro a7 c7 w7 hr7 hg7;have hb7:Below w4.heap.size w4 w7:=HR6.out.1.grown hg7 hsz6 (fun k hk=>(aan HR6.out.2 hk).1);have x7:=(HX7.out w7 hb7).1;have xz7:=(HX7.out w7 hb7).2))
                          have e7:k0+1+(acc.length-k0)=acc.length+1:=by omega
                          have e8:(acc++[(pts,els)]).length=acc.length+1:=by simp
                          have hL:=HBOX.out a7 _ c7 w7 hb7 hr7 e7
                          have HJ9:Aside (LE w (.slice (some ⟨gl,0,none⟩) C.length cl) C (l.take k0++[(pts,els)]++l.drop k0) (.slice a7 (acc++[(pts,els)]).length c7) (ps.take k0++[((pts,els),.slice pa pts.length pc,.slice ea els.length ec)]++ps.drop k0) (w7.setCell ⟨w.heap.size+1,0,none⟩ (.slice a7 (k0+1+(acc.length-k0)) c7))):=by rw[e7,e8];exact hL
                          clear hL x7 xz7 hr7 hg7 e7 e8
                          go_roundg (C.length-(j+1))
                          case measure=>omega
                          case rel=>exact⟨j+1,acc++[(pts,els)],_,a7,c7,_,by first | rfl | go_num,by omega,by omega,by simp;omega,HSO2,HJ9,HK2⟩
                        · go_wp2_with (first | (at_builtin;refine abg rfl _ _ rfl w4.heap.size _ (k0+1) _ rfl HR6.out.2 _ (acc.length-k0) _ (ab1 (ps.drop k0)) rfl HN2.out (fun h=>⟨⟨gm,k0*2,none⟩,by first | rfl | simp,HCL2.out⟩) HO2.out hl2 hsz6 ?_;intro a7 c7 w7 hr7 hg7;have hb7:Below w4.heap.size w4 w7:=HR6.out.1.grown hg7 hsz6 (fun k hk=>(aan HR6.out.2 hk).1);have x7:=(HX7.out w7 hb7).1;have xz7:=(HX7.out w7 hb7).2))
                          have e7:k0+1+(acc.length-k0)=acc.length+1:=by omega
                          have e8:(acc++[(pts,els)]).length=acc.length+1:=by simp
                          have hL:=HBOX.out a7 _ c7 w7 hb7 hr7 e7
                          have HJ9:Aside (LE w (.slice (some ⟨gl,0,none⟩) C.length cl) C (l.take k0++[(pts,els)]++l.drop k0) (.slice a7 (acc++[(pts,els)]).length c7) (ps.take k0++[((pts,els),.slice pa pts.length pc,.slice ea els.length ec)]++ps.drop k0) (w7.setCell ⟨w.heap.size+1,0,none⟩ (.slice a7 (k0+1+(acc.length-k0)) c7))):=by rw[e7,e8];exact hL
                          clear hL x7 xz7 hr7 hg7 e7 e8
                          go_roundg (C.length-(j+1))
                          case measure=>omega
                          case rel=>exact⟨j+1,acc++[(pts,els)],_,a7,c7,_,by first | rfl | go_num,by omega,by omega,by simp;omega,HSO2,HJ9,HK2⟩
          · have HF:Hid (ab9 s.data.toList=.error (60,(j:Int)+1)):=by show _=_;rw[HRL.out,←HK.out];exact a2i hltC (by rw[←HT.out];exact hst') (by rw[←HT.out];exact hent)
            have HJ3:Aside (LE w (.slice (some ⟨gl,0,none⟩) C.length cl) C l (.slice ma acc.length mc) ps (w2.alloc (.cells #[.slice pa pn pc,.slice ea en ec] 160))):=HJ3'
            clear hsil hline hb2 HJ2 HK hent hst' HJ
            go_upto_region 10 with fail
            generalize w2.alloc (.cells #[.slice pa pn pc,.slice ea en ec] 160)=w3 at HJ3 HJ3'⊢
            have r0:w3.cell? ⟨w.heap.size,0,none⟩=some (.slice none 0 0):=HJ3'.res.cell 0
            have rz:=HJ3'.res.frozen 0
            clear HJ3' hM3 hb3
            go_wp2_with fail
            refine bodyPost_ret (abp (HJ3.out.res.set 0 (.slice none 0 0)) rfl rfl rfl) rfl ?_
            exact⟨HJ3.out.below.setCell (p:=⟨w.heap.size,0,none⟩) (Nat.le_refl _) _,.inl ⟨_,_,HF.out,rfl⟩⟩
      · obtain rfl:j=kl:=by omega
        have hjz: ¬(j:Int)<(j:Int):=by omega
        have HF:Hid (ab9 s.data.toList=.ok acc):=by show _=_;rw[HRL.out,←HK.out];exact a5z (by rw[←HKL.out];exact Nat.le_refl _)
        have r0:wr.cell? ⟨w.heap.size,0,none⟩=some (.slice none 0 0):=HJ.out.res.cell 0
        have rz:=HJ.out.res.frozen 0
        have hxb:wr.cell? ⟨w.heap.size+1,0,none⟩=some (.slice ma acc.length mc):=HJ.out.box.cell 0
        clear HK
        go_wp2_with fail
        refine bodyPost_ret (abp (HJ.out.res.set 0 (.slice ma acc.length mc)) rfl rfl rfl) rfl ?_
        exact⟨HJ.out.below.setCell (p:=⟨w.heap.size,0,none⟩) (Nat.le_refl _) _,.inr ⟨acc,l,_,_,_,HF.out,HSO.out.1,HSO.out.2.1,rfl,HJ.out.fin2 _⟩⟩
end Go.Proofs.YtfhpgmlfgjfknaaGreatDoor
namespace Go.Proofs.YtfhpgmlfgjfknaaGreatDoor
open Go.RowKit Go.Vf
def amu (c:Nat):Nat:=match adt c with
 | some k=>(aaf k).size
 | none=>0
theorem ato (c:Nat):(c≤127∧amu c=1)∨(194≤c∧c≤223∧amu c=2)∨(224≤c∧c≤239∧amu c=3)∨(240≤c∧c≤244∧amu c=4)∨((127<c∧c<194∨244<c)∧amu c=0):=by
 unfold amu
 cases h:adt c with
 | none=>
  refine .inr (.inr (.inr (.inr ⟨?_,rfl⟩)))
  refine Classical.byContradiction fun hn=> ?_
  have hc: ∃k,k<9∧(aaf k).first≤c∧c≤(aaf k).last:=by
   have:c≤127∨(194≤c∧c≤223)∨c=224∨(225≤c∧c≤236)∨c=237∨(238≤c∧c≤239)∨c=240∨(241≤c∧c≤243)∨c=244:=by omega
   rcases this with h | h | h | h | h | h | h | h | h
   ·exact⟨0,by decide,by simp only[aaf];omega,by simp only[aaf];omega⟩
   ·exact⟨1,by decide,by simp only[aaf];omega,by simp only[aaf];omega⟩
   ·exact⟨2,by decide,by simp only[aaf];omega,by simp only[aaf];omega⟩
   ·exact⟨3,by decide,by simp only[aaf];omega,by simp only[aaf];omega⟩
   ·exact⟨4,by decide,by simp only[aaf];omega,by simp only[aaf];omega⟩
   ·exact⟨5,by decide,by simp only[aaf];omega,by simp only[aaf];omega⟩
   ·exact⟨6,by decide,by simp only[aaf];omega,by simp only[aaf];omega⟩
   ·exact⟨7,by decide,by simp only[aaf];omega,by simp only[aaf];omega⟩
   ·exact⟨8,by decide,by simp only[aaf];omega,by simp only[aaf];omega⟩
  obtain⟨k,hk,h1,h2⟩:=hc
  rw[ahh hk h1 h2] at h
  cases h
 | some k=>
  obtain⟨hk,h1,h2⟩:=ald h
  rcases acf hk with rfl | rfl | rfl | rfl | rfl | rfl | rfl | rfl | rfl<;>simp only[aaf] at h1 h2<;>
   first | exact .inl ⟨by omega,rfl⟩ | exact .inr (.inl ⟨by omega,by omega,rfl⟩) | exact .inr (.inr (.inl ⟨by omega,by omega,rfl⟩)) | exact .inr (.inr (.inr (.inl ⟨by omega,by omega,rfl⟩)))
set_option maxHeartbeats 400000 in
theorem akt (c:Nat)(w:World):Calls Tryz.prog 145 #[.int .i64 (c:Int)] w fun e w'=>e=.returned (.int .i64 (amu c:Int))∧w=w':=by
 rcases ato c with ⟨h1,e⟩ | ⟨h1,h2,e⟩ | ⟨h1,h2,e⟩ | ⟨h1,h2,e⟩ | ⟨h1,e⟩
 ·rw[e]
  go_enter Tryz.func145,Tryz.ntmps145
  go_wp2
  go_ret
  exact⟨rfl,rfl⟩
 ·rw[e]
  have a1: ¬c≤127:=by omega
  clear e
  go_enter Tryz.func145,Tryz.ntmps145
  go_wp2
  go_ret
  exact⟨rfl,rfl⟩
 ·rw[e]
  have a1: ¬c≤127:=by omega
  have a2: ¬c≤223:=by omega
  clear e
  go_enter Tryz.func145,Tryz.ntmps145
  go_wp2
  go_ret
  exact⟨rfl,rfl⟩
 ·rw[e]
  have a1: ¬c≤127:=by omega
  have a2: ¬c≤223:=by omega
  have a3: ¬c≤239:=by omega
  clear e
  go_enter Tryz.func145,Tryz.ntmps145
  go_wp2
  go_ret
  exact⟨rfl,rfl⟩
 ·rw[e]
  have a1: ¬c≤127:=by omega
  clear e
  rcases h1 with ⟨_,h1⟩ | h1
  ·have a2: ¬194≤c:=by omega
   have a3: ¬224≤c:=by omega
   have a4: ¬240≤c:=by omega
   go_enter Tryz.func145,Tryz.ntmps145
   go_wp2
   go_ret
   exact⟨rfl,rfl⟩
  ·have a2: ¬c≤223:=by omega
   have a3: ¬c≤239:=by omega
   have a4: ¬c≤244:=by omega
   go_enter Tryz.func145,Tryz.ntmps145
   go_wp2
   go_ret
   exact⟨rfl,rfl⟩
theorem ane (c b k:Nat)(hk:adt c=some k)(hz:2≤(aaf k).size)(w:World):
  Calls Tryz.prog 146 #[.int .i64 (c:Int),.int .i64 (b:Int)] w fun e w'=>e=.returned (.bool (decide ((aaf k).low≤b)&&decide (b≤(aaf k).high)))∧w=w':=by
 obtain⟨hk9,h1,h2⟩:=ald hk
 obtain⟨R,HR⟩: ∃R,Hid (R=(decide ((aaf k).low≤b)&&decide (b≤(aaf k).high))):=⟨_,rfl⟩
 rw[←HR.out]
 have fin: ∀(lo hi:Nat),(aaf k).low=lo→(aaf k).high=hi→R=(decide (lo≤b)&&decide (b≤hi)):=fun lo hi e1 e2=>by rw[HR.out,e1,e2]
 have hcase:(c≠0xe0∧c≠0xed∧c≠0xf0∧c≠0xf4∧(aaf k).low=128∧(aaf k).high=191)∨(c=0xe0∧(aaf k).low=160∧(aaf k).high=191)∨(c=0xed∧(aaf k).low=128∧(aaf k).high=159)∨(c=0xf0∧(aaf k).low=144∧(aaf k).high=191)∨(c=0xf4∧(aaf k).low=128∧(aaf k).high=143):=by
  rcases acf hk9 with rfl | rfl | rfl | rfl | rfl | rfl | rfl | rfl | rfl<;>simp only[aaf] at h1 h2 hz<;>
   first | omega | exact .inl ⟨by omega,by omega,by omega,by omega,rfl,rfl⟩ | exact .inr (.inl ⟨by omega,rfl,rfl⟩) | exact .inr (.inr (.inl ⟨by omega,rfl,rfl⟩)) | exact .inr (.inr (.inr (.inl ⟨by omega,rfl,rfl⟩))) | exact .inr (.inr (.inr (.inr ⟨by omega,rfl,rfl⟩)))
 clear HR h1 h2 hk hz
 rcases hcase with ⟨n1,n2,n3,n4,e1,e2⟩ | ⟨rfl,e1,e2⟩ | ⟨rfl,e1,e2⟩ | ⟨rfl,e1,e2⟩ | ⟨rfl,e1,e2⟩
 ·have hR:=fin _ _ e1 e2
  have m1:((c:Int)==224)=false:=by simp;omega
  have m2:((c:Int)==237)=false:=by simp;omega
  have m3:((c:Int)==240)=false:=by simp;omega
  have m4:((c:Int)==244)=false:=by simp;omega
  clear fin e1 e2
  by_cases l1:128≤b<;>by_cases l2:b≤191<;>
  ·go_enter Tryz.func146,Tryz.ntmps146
   go_wp2
   all_goals go_ret
   all_goals exact⟨by first | rfl | (rw[hR];simp[l1,l2];done) | (rw[hR];simp[l1,l2];omega),rfl⟩
 all_goals
  have hR:=fin _ _ e1 e2
  clear fin e1 e2
 ·by_cases l1:160≤b<;>by_cases l2:b≤191<;>
  ·go_enter Tryz.func146,Tryz.ntmps146
   go_wp2
   all_goals go_ret
   all_goals exact⟨by first | rfl | (rw[hR];simp[l1,l2];done) | (rw[hR];simp[l1,l2];omega),rfl⟩
 ·by_cases l1:128≤b<;>by_cases l2:b≤159<;>
  ·go_enter Tryz.func146,Tryz.ntmps146
   go_wp2
   all_goals go_ret
   all_goals exact⟨by first | rfl | (rw[hR];simp[l1,l2];done) | (rw[hR];simp[l1,l2];omega),rfl⟩
 ·by_cases l1:144≤b<;>by_cases l2:b≤191<;>
  ·go_enter Tryz.func146,Tryz.ntmps146
   go_wp2
   all_goals go_ret
   all_goals exact⟨by first | rfl | (rw[hR];simp[l1,l2];done) | (rw[hR];simp[l1,l2];omega),rfl⟩
 ·by_cases l1:128≤b<;>by_cases l2:b≤143<;>
  ·go_enter Tryz.func146,Tryz.ntmps146
   go_wp2
   all_goals go_ret
   all_goals exact⟨by first | rfl | (rw[hR];simp[l1,l2];done) | (rw[hR];simp[l1,l2];omega),rfl⟩
def asd (l:List UInt8):Nat×Nat:=match adt (l[0]?.getD 0).toNat with
 | some k=>if abh k l then (agx (l.take (aaf k).size) (aaf k).size,(aaf k).size) else (0,0)
 | none=>(0,0)
theorem avd {p:Nat}(hp:ajh p)(t:List UInt8):asd (enc p++t)=(p,(enc p).length):=by
 obtain⟨k,hk,h1,_,h2,h3,h4⟩:=aud hp t
 have h0:(enc p++t)[0]?.getD 0=(enc p)[0]?.getD 0:=by rw[List.getElem?_append_left (ahc p)]
 unfold asd
 rw[h0,h1]
 simp only[h3,if_true]
 rw[h2,List.take_left,h4]
theorem azm {l:List UInt8}(h:ai2 l):asd l=(0,0):=by
 unfold asd
 cases hr:adt (l[0]?.getD 0).toNat with
 | none=>rfl
 | some k=>simp[h.2 k hr]
theorem au0 {l:List UInt8}{z:Nat}(h:z≤l.length):((l.take z).drop 2).all afz=true↔ ∀i,2≤i→i<z→afz (l[i]?.getD 0)=true:=by
 have hi: ∀i,2≤i→i<z→((l.take z).drop 2)[i-2]? =l[i]?:=fun i h1 h2=>by
  rw[List.getElem?_drop,List.getElem?_take,if_pos (by omega)]
  congr 1
  omega
 rw[List.all_eq_true]
 constructor
 ·intro ha i h1 h2
  have hm:l[i]?.getD 0∈(l.take z).drop 2:=by
   have h3:=hi i h1 h2
   rw[List.getElem?_eq_getElem (show i<l.length by omega)] at h3
   rw[List.getElem?_eq_getElem (show i<l.length by omega)]
   exact List.mem_of_getElem? h3
  exact ha _ hm
 ·intro ha x hx
  obtain⟨n,hn,rfl⟩:=List.mem_iff_getElem.1 hx
  have hlen:n+2<z:=by simp at hn;omega
  have:=ha (n+2) (by omega) hlen
  have h3:=hi (n+2) (by omega) hlen
  rw[Nat.add_sub_cancel,List.getElem?_eq_getElem hn] at h3
  rw[←h3] at this
  exact this
theorem ab5 {tmps:Array Value}{w:World}{a b:Int}(t4:tmps[4]?.getD undef=.int .i64 a)(t5:tmps[5]?.getD undef=.int .i64 b):
  (results Tryz.f103 tmps).run Tryz.prog w=.ok (.tuple #[.int .i64 a,.int .i64 b]) w:=by
 simp[results,Tryz.results103,go_sem,t4,t5]
end Go.Proofs.YtfhpgmlfgjfknaaGreatDoor
