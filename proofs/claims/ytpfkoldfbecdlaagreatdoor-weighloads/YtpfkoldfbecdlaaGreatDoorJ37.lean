/- Contracts and lemmas (nothing is claimed here). -/
import Derived.Test.YtpfkoldfbecdlaaGreatDoorJ36
import Derived.Test.YtpfkoldfbecdlaaGreatDoorLoadsK
namespace Go.Proofs.YtpfkoldfbecdlaaGreatDoor
open Go.RowKit Go.Vf Go.Maps
def arr (t:List UInt8)(w:World)(e:Ending)(w':World):Prop:=Below w.heap.size w w'∧
  ((∃why line,ac0 t=.error (why,line)∧e=.returned (.tuple #[.agg #[.slice none 0 0],.int .i64 why,.int .i64 line]))∨
   (∃E l a n c,ac0 t=.ok E∧amc l∧l.Perm E∧e=.returned (.tuple #[.agg #[.slice a n c],.int .i64 0,.int .i64 0])∧NOwn w' w.heap.size (.slice a n c) l))
set_option maxHeartbeats 16000000 in
set_option maxRecDepth 20000 in
theorem ap5 (s:ByteArray)(hbig:s.size≤281474976710656)(w:World):Calls Tryz.prog 20 #[.string s] w fun e w'=>arr s.data.toList w e w':=by
  have HSL:Hid (s.data.toList.length=s.size):=(Lib.size_eq s).symm
  have hb0:=(Below.refl w.heap.size w).alloc (Nat.le_refl _) (.cells #[.slice none 0 0] 31)
  have hn0:=Blk.new w 31 #[.slice none 0 0]
  by_cases hlong:65536<s.size
  · have hlz:(65536:Int)<(s.size:Int):=by omega
    have HR:Hid (ac0 s.data.toList=.error (2,0)):=by show _=_;unfold ac0;rw[if_pos (by rw[HSL.out];exact hlong)]
    go_enter Tryz.func20,Tryz.ntmps20
    go_wp2_with fail
    refine bodyPost_ret (abp hn0 rfl rfl rfl) rfl ?_
    exact⟨hb0,.inl ⟨_,_,HR.out,rfl⟩⟩
  · have hlz: ¬(65536:Int)<(s.size:Int):=by omega
    have hs:s.size≤65536:=by omega
    have hb1:=hb0.alloc (by simp) (.cells #[.slice none 0 0] 31)
    have hn1:=Blk.new (w.alloc (.cells #[.slice none 0 0] 31)) 31 #[.slice none 0 0]
    have hn0':Blk ((w.alloc (.cells #[.slice none 0 0] 31)).alloc (.cells #[.slice none 0 0] 31)) w.heap.size 31 #[.slice none 0 0]:=hn0.below ((Below.refl _ _).alloc (Nat.le_refl _) _) (by simp)
    rw[show (w.alloc (.cells #[.slice none 0 0] 31)).heap.size=w.heap.size+1 by simp] at hn1
    go_enter Tryz.func20,Tryz.ntmps20
    go_upto_region 4 with fail
    generalize (w.alloc (.cells #[.slice none 0 0] 31)).alloc (.cells #[.slice none 0 0] 31)=W at hb1 hn1 hn0'⊢
    clear hn0 hb0
    go_wp2_with fail
    refine(aj0 s hs W).mono ?_
    rintro e w1 ⟨al,kl,cl,rfl,hol,hbl⟩
    obtain⟨C,hC⟩: ∃C,C=aa5 (10:UInt8) s.data.toList:=⟨_,rfl⟩
    rw[←hC] at hol
    have HC:Hid (C=aa5 (10:UInt8) s.data.toList):=hC
    have HCS:Aside (∀x∈C,x.length≤65536):=fun x hx=>by rw[hC] at hx;exact Nat.le_trans (abj 10 _ x hx) (by rw[HSL.out];exact hs)
    have hkl:kl=C.length:=by obtain⟨_,_,e⟩:=aay hol;cases e;rfl
    have HKL:Hid (kl=C.length):=hkl
    have hkl2:kl≤65537:=by rw[hkl,hC];have:=abn 10 s.data.toList;rw[HSL.out] at this;omega
    have HJ0:Aside (LE w (.slice al kl cl) C [] (.slice none 0 0) [] w1):=
      ⟨hn0'.below hbl hn0'.lt,hn1.below hbl hn1.lt,aah hol hb1.size,World.ownsRow_nil _ _ _ _,by simp,rfl,hb1.trans (hbl.mono hb1.size)⟩
    obtain⟨RL,hRL⟩: ∃RL,afh C 0 []=RL:=⟨_,rfl⟩
    have HRL:Hid (ac0 s.data.toList=RL):=by show _=_;unfold ac0;rw[if_neg (by rw[HSL.out];omega),←HC.out,hRL]
    have H0:Hid (afh (C.drop 0) ((0:Nat):Int) []=RL):=hRL
    clear hC hkl hRL hol hbl hn0' hn1 hb1
    go_wp2_with fail
    go_loopg [7] kl (fun g1 v7 wr=> ∃(j:Nat) (acc l:List Ent) (ma:Option Addr) (mc:Nat) (ps:List EV),v7=.int .i64 j∧j≤kl∧kl-j≤g1∧acc.length≤4096∧Hid (amc l∧l.Perm acc∧ ∀e∈l,e.1.length≤8)∧Aside (LE w (.slice al kl cl) C l (.slice ma acc.length mc) ps wr)∧Hid (afh (C.drop j) (j:Int) acc=RL))
    case atStart=>exact⟨0,[],[],none,0,[],rfl,Nat.zero_le _,by omega,by simp,⟨by simp[amc],List.Perm.refl _,by simp⟩,HJ0,H0⟩
    case round=>
      clear HJ0 H0
      obtain⟨j,acc,l,ma,mc,ps,rfl,hjk,hg1,hacc,HSO,HJ,HK⟩:=hrel
      have hll:Hid (l.length=acc.length):=HSO.out.2.1.length_eq
      by_cases hlt:j<kl
      · have hltz:(j:Int)<(kl:Int):=by omega
        have hltC:j<C.length:=by rw[←HKL.out];exact hlt
        obtain⟨gl,cpl,el,hgl,hgl2,hcl⟩:=HJ.out.lines.cells (by omega)
        cases el
        have hcj:=hcl j hltC
        have hlen:=HCS.out C[j] (List.getElem_mem hltC)
        obtain⟨t,ht⟩: ∃t,t=C[j]:=⟨_,rfl⟩
        rw[←ht] at hcj hlen
        have HT:Hid (t=C[j]):=ht
        have hsil:=amy (bsz t) wr
        rw[show (bsz t).data.toList=t from rfl] at hsil
        clear hcl ht
        by_cases hst:aax t=true
        · rw[hst] at hsil
          have HK2:Hid (afh (C.drop (j+1)) ((j+1:Nat):Int) acc=RL):=by
            show _=_
            rw[←HK.out,ave hltC (by rw[←HT.out];exact hst)];rfl
          clear HK hst
          go_wp2_with fail
          refine hsil.mono ?_
          rintro e wq ⟨rfl,rfl⟩
          go_wp2
          go_roundg (C.length-(j+1))
          case measure=>omega
          case rel=>exact⟨j+1,acc,l,ma,mc,ps,by first | rfl | go_num,by omega,by omega,hacc,HSO,HJ,HK2⟩
        · have hst':aax t=false:=by simpa using hst
          rw[hst'] at hsil
          clear hst
          have hline:=ap6 (bsz t) (by rw[aa8];exact hlen) wr
          rw[show (bsz t).data.toList=t from rfl] at hline
          go_wp2_with fail
          refine hsil.mono ?_
          rintro e wq ⟨rfl,rfl⟩
          go_wp2_with fail
          refine hline.mono ?_
          rintro e w2 ⟨hb2,pa,pn,pc,ea,en,ec,ok,rfl,hcase⟩
          have HJ2:=HJ.out.go hb2
          have hb3:=(Below.refl w2.heap.size w2).alloc (Nat.le_refl _) (.cells #[.slice pa pn pc,.slice ea en ec] 128)
          have HJ3':=HJ2.go hb3
          have hM3:=Blk.new w2 128 #[.slice pa pn pc,.slice ea en ec]
          rcases hcase with ⟨rfl,x,hent,hop,hoe⟩ | ⟨rfl,hent⟩
          · obtain⟨pts,els⟩:=x
            obtain⟨_,_,e1⟩:=hop.val
            obtain rfl:pn=pts.length:=(Value.slice.inj e1).2.1
            obtain⟨_,_,e2,_⟩:=hoe.cap
            obtain rfl:en=els.length:=(Value.slice.inj e2).2.1
            clear e1 e2
            have hlens:=az7 hent
            have HEN:Hid (aem C[j]=some (pts,els)):=by show _=_;rw[←HT.out];exact hent
            have HST:Hid (aax C[j]=false):=by show _=_;rw[←HT.out];exact hst'
            have hop3:IOwn _ w.heap.size (.slice pa pts.length pc) pts:=aae (hop.mono HJ.out.below.size) hb3
            have hoe3:EOwn _ w.heap.size (.slice ea els.length ec) els:=aae (aah hoe HJ.out.below.size) hb3
            clear hsil hline hb2 HJ2 hop hoe hent hst' HJ
            go_upto_region 12 with fail
            generalize w2.alloc (.cells #[.slice pa pts.length pc,.slice ea els.length ec] 128)=w3 at HJ3' hM3 hop3 hoe3⊢
            generalize w2.heap.size=MB at hM3⊢
            have HJ3:Aside (LE w (.slice (some ⟨gl,0,none⟩) C.length cl) C l (.slice ma acc.length mc) ps w3):=HJ3'
            have HM3:Aside (Blk w3 MB 128 #[.slice pa pts.length pc,.slice ea els.length ec]):=hM3
            have HOP3:Aside (IOwn w3 w.heap.size (.slice pa pts.length pc) pts):=hop3
            have HOE3:Aside (EOwn w3 w.heap.size (.slice ea els.length ec) els):=hoe3
            clear hb3 HJ3' hM3 hop3 hoe3
            -- the weights
            go_wp2_with fail
            obtain⟨wo,hwo⟩: ∃wo,wo=w3:=⟨_,rfl⟩
            subst hwo
            go_loopg [10] els.length (fun g2 v10 wr=> ∃k:Nat,v10=.int .i64 k∧k≤els.length∧els.length-k≤g2∧Hid ((els.take k).all aaf=true)∧Aside (Below wo.heap.size wo wr))
            case atStart=>exact⟨0,rfl,Nat.zero_le _,by omega,by show _=_;simp,Below.refl _ _⟩
            case round=>
              obtain⟨k,rfl,hk,hg2,HAL,HBW⟩:=hrel
              have HJ4:Aside (LE w (.slice (some ⟨gl,0,none⟩) C.length cl) C l (.slice ma acc.length mc) ps wr):=HJ3.out.go HBW.out
              have HM4:Aside (Blk wr MB 128 #[.slice pa pts.length pc,.slice ea els.length ec]):=HM3.out.below HBW.out HM3.out.lt
              have HOP4:Aside (IOwn wr w.heap.size (.slice pa pts.length pc) pts):=aae HOP3.out HBW.out
              have HOE4:Aside (EOwn wr w.heap.size (.slice ea els.length ec) els):=aae HOE3.out HBW.out
              have r0:wr.cell? ⟨w.heap.size,0,none⟩=some (.slice none 0 0):=HJ4.out.res.cell 0
              have rz:=HJ4.out.res.frozen 0
              have m0:wr.cell? ⟨MB,0,none⟩=some (.slice pa pts.length pc):=HM4.out.cell 0
              have m1:wr.cell? ⟨MB,1,none⟩=some (.slice ea els.length ec):=HM4.out.cell 1
              by_cases hkl:k<els.length
              · obtain⟨be,oe,rfl,y0,y1,y2,y3⟩: ∃be oe,ea=some ⟨be,oe,none⟩∧wr.cell? ⟨be,oe+k*4,none⟩=some (.bool els[k].va)∧wr.cell? ⟨be,oe+k*4+1,none⟩=some (.int .i64 els[k].pr)∧wr.cell? ⟨be,oe+k*4+2,none⟩=some (.int .i64 els[k].se)∧wr.cell? ⟨be,oe+k*4+3,none⟩=some (.int .i64 els[k].te):=by
                  rcases HOE4.out.els with ⟨_,_,_,e⟩ | ⟨b,off,c',e,hb,hc⟩
                  · rw[e] at hkl;simp at hkl
                  · cases (Value.slice.inj e).1
                    obtain⟨z0,z1,z2,z3⟩:=hc k hkl
                    exact⟨b,off,rfl,z0,z1,z2,z3⟩
                have hri:=ajz els[k] wr
                have HTK:Hid ((els.take (k+1)).all aaf=((els.take k).all aaf&&aaf els[k])):=by
                  show _=_
                  rw[List.take_add_one,List.getElem?_eq_getElem hkl,List.all_append]
                  simp
                have HMEM:Hid (els[k]∈els):=List.getElem_mem hkl
                generalize els[k]=ek at*
                obtain⟨q1,q2,q3,q4⟩:=ek
                simp only at y0 y1 y2 y3
                have hklz:(k:Int)<(els.length:Int):=by omega
                cases hrb:aaf ⟨q1,q2,q3,q4⟩ with
                | true=>
                  rw[hrb] at hri
                  have HAL2:Hid ((els.take (k+1)).all aaf=true):=by show _=_;rw[HTK.out,HAL.out,hrb];rfl
                  clear HAL HTK hrb
                  go_wp2_with fail
                  refine hri.mono ?_
                  rintro _ w5 ⟨rfl,hb5⟩
                  go_wp2
                  go_roundg (els.length-(k+1))
                  case measure=>omega
                  case rel=>exact⟨k+1,by first | rfl | go_num,by omega,Nat.le_refl _,HAL2,HBW.out.trans (hb5.mono HBW.out.size)⟩
                | false=>
                  rw[hrb] at hri
                  have HF:Hid (ac0 s.data.toList=.error (62,(j:Int)+1)):=by
                    show _=_
                    rw[HRL.out,←HK.out]
                    refine avd hltC HST.out HEN.out (fun h=> ?_)
                    have:=List.all_eq_true.1 h _ HMEM.out
                    rw[hrb] at this
                    cases this
                  clear HAL HTK hrb HK
                  go_wp2_with fail
                  refine hri.mono ?_
                  rintro _ w5 ⟨rfl,hb5⟩
                  have HJ5:Aside (LE w (.slice (some ⟨gl,0,none⟩) C.length cl) C l (.slice ma acc.length mc) ps w5):=HJ4.out.go hb5
                  clear r0 rz
                  have r0:w5.cell? ⟨w.heap.size,0,none⟩=some (.slice none 0 0):=HJ5.out.res.cell 0
                  have rz:=HJ5.out.res.frozen 0
                  go_wp2_with fail
                  refine bodyPost_ret (abp (HJ5.out.res.set 0 (.slice none 0 0)) rfl rfl rfl) rfl ?_
                  exact⟨HJ5.out.below.setCell (p:=⟨w.heap.size,0,none⟩) (Nat.le_refl _) _,.inl ⟨_,_,HF.out,rfl⟩⟩
              · have hklz: ¬(k:Int)<(els.length:Int):=by omega
                have HW:Hid (els.all aaf=true):=by show _=_;rw[←HAL.out,List.take_of_length_le (by omega)]
                clear HAL
                have x0:wr.cell? ⟨w.heap.size+1,0,none⟩=some (.slice ma acc.length mc):=HJ4.out.box.cell 0
                have hpl:=aoi l HSO.out.1 (by rw[hll.out];omega) (fun e he=>Nat.le_trans (HSO.out.2.2 e he) (by omega)) (.slice ma acc.length mc) (.slice pa pts.length pc) pts (by omega) wr.heap.size wr (Nat.le_refl _) HJ4.out.min HOP4.out.ints
                go_wp2_with fail
                refine hpl.mono ?_
                rintro e w4 ⟨k0,b0,hpa,rfl,hfd,hb4⟩
                have HJ5:Aside (LE w (.slice (some ⟨gl,0,none⟩) C.length cl) C l (.slice ma acc.length mc) ps w4):=HJ4.out.go hb4
                have HM5:Aside (Blk w4 MB 128 #[.slice pa pts.length pc,.slice ea els.length ec]):=HM4.out.below hb4 HM4.out.lt
                have HOP5:Aside (IOwn w4 w.heap.size (.slice pa pts.length pc) pts):=aae HOP4.out hb4
                have HOE5:Aside (EOwn w4 w.heap.size (.slice ea els.length ec) els):=aae HOE4.out hb4
                clear hb4 HJ4 HM4 HOP4 HOE4 hpl r0 rz x0 m0 m1 HBW HJ3 HM3 HOP3 HOE3
                have r0:w4.cell? ⟨w.heap.size,0,none⟩=some (.slice none 0 0):=HJ5.out.res.cell 0
                have rz:=HJ5.out.res.frozen 0
                rcases hfd with ⟨rfl,hk0,hpt⟩ | ⟨rfl,hno⟩
                · -- such points stand there
                  have HF:Hid (ac0 s.data.toList=.error (61,(j:Int)+1)):=by
                    show _=_
                    rw[HRL.out,←HK.out]
                    exact axv hltC HST.out HEN.out HW.out ((azs HSO.out.2.1 pts).1 ⟨k0,hk0,hpt⟩)
                  clear HK hk0 hpt hpa
                  go_wp2_with fail
                  refine bodyPost_ret (abp (HJ5.out.res.set 0 (.slice none 0 0)) rfl rfl rfl) rfl ?_
                  exact⟨HJ5.out.below.setCell (p:=⟨w.heap.size,0,none⟩) (Nat.le_refl _) _,.inl ⟨_,_,HF.out,rfl⟩⟩
                · have hany:akk acc pts=false:=by
                    cases h:akk acc pts with
                    | false=>rfl
                    | true=>obtain⟨i,hi,e⟩:=(azs HSO.out.2.1 pts).2 h;exact absurd e (hno i hi)
                  have x0:w4.cell? ⟨w.heap.size+1,0,none⟩=some (.slice ma acc.length mc):=HJ5.out.box.cell 0
                  by_cases hfull:4096≤acc.length
                  · have hfz:(4096:Int)≤(acc.length:Int):=by omega
                    have HF:Hid (ac0 s.data.toList=.error (2,(j:Int)+1)):=by
                      show _=_
                      rw[HRL.out,←HK.out]
                      exact a1d hltC HST.out HEN.out HW.out hany hfull
                    clear HK hno hpa hany
                    go_wp2_with fail
                    refine bodyPost_ret (abp (HJ5.out.res.set 0 (.slice none 0 0)) rfl rfl rfl) rfl ?_
                    exact⟨HJ5.out.below.setCell (p:=⟨w.heap.size,0,none⟩) (Nat.le_refl _) _,.inl ⟨_,_,HF.out,rfl⟩⟩
                  · have hfz: ¬(4096:Int)≤(acc.length:Int):=by omega
                    have HK2:Hid (afh (C.drop (j+1)) ((j+1:Nat):Int) (acc++[(pts,els)])=RL):=by
                      show _=_
                      rw[←HK.out,a1c hltC HST.out HEN.out HW.out hany (by omega)];rfl
                    have HSO2:Hid (amc (l.take k0++[(pts,els)]++l.drop k0)∧(l.take k0++[(pts,els)]++l.drop k0).Perm (acc++[(pts,els)])∧ ∀e∈l.take k0++[(pts,els)]++l.drop k0,e.1.length≤8):=⟨aya (x:=(pts,els)) HSO.out.1 hpa hno,a1q HSO.out.2.1,fun e he=>by
                      rcases List.mem_append.1 he with he | he
                      · rcases List.mem_append.1 he with he | he
                        · exact HSO.out.2.2 e (List.mem_of_mem_take he)
                        · simp at he;subst he;exact hlens.1
                      · exact HSO.out.2.2 e (List.mem_of_mem_drop he)⟩
                    have hk0:k0≤acc.length:=by have:=hpa.le;rw[hll.out] at this;exact this
                    have hk0z:(k0:Int)≤(acc.length:Int):=by omega
                    have HPSL:Hid (ps.length=acc.length):=by show _=_;have:=congrArg List.length HJ5.out.is;rw[List.length_map,hll.out] at this;exact this
                    clear hany HK hno hpa r0 rz
                    have q0:w4.cell? ⟨MB,0,none⟩=some (.slice pa pts.length pc):=HM5.out.cell 0
                    have q1:w4.cell? ⟨MB,1,none⟩=some (.slice ea els.length ec):=HM5.out.cell 1
                    have HN1:Aside ((ab0 (ps.take k0)).length=k0*2):=by show _=_;rw[alu,List.length_take,HPSL.out];omega
                    have HN2:Aside ((ab0 (ps.drop k0)).length=(acc.length-k0)*2):=by show _=_;rw[alu,List.length_drop,HPSL.out]
                    have HO1:Aside (∀u∈ab0 (ps.take k0),u.oneCell'=true):=aqz (fun x hx=>HJ5.out.parts x (List.mem_of_mem_take hx))
                    have HO2:Aside (∀u∈ab0 (ps.drop k0),u.oneCell'=true):=aqz (fun x hx=>HJ5.out.parts x (List.mem_of_mem_drop hx))
                    have HMA:Hid ((ma=none∧acc.length=0∧mc=0)∨ ∃g,ma=some ⟨g,0,none⟩∧acc.length≤mc):=by
                      rcases HJ5.out.ents.2 with ⟨e0,hz0⟩ | ⟨gm,cpm,curm,em,hbm,hgm,hcm,_⟩
                      · obtain⟨e1,e2,e3⟩:=Value.slice.inj e0
                        exact .inl ⟨e1,e2,e3⟩
                      · obtain⟨e1,e2,e3⟩:=Value.slice.inj em
                        exact .inr ⟨gm,e1,by rw[e3,←HPSL.out];exact hcm⟩
                    go_upto_region 23 with fail
                    go_cut [13] from 20 to 95 (fun v13 wx=> ∃a5 c5,v13=.slice a5 k0 c5∧Aside (Below w4.heap.size w4 wx∧wx.ownsRow w4.heap.size 128 2 (.slice a5 k0 c5) k0 (ab0 (ps.take k0))))
                    case first=>
                      have hr40:w4.ownsRow w4.heap.size 128 2 (.slice none 0 0) 0 []:=World.ownsRow_nil _ _ _ _
                      have hl1:0+k0≤1048576:=by omega
                      rcases HMA.out with ⟨rfl,hz,rfl⟩ | ⟨gm,rfl,hcm⟩
                      · have HK00:Hid (k0=0):=by show _=_;omega
                        have hk00:(k0:Int)≤0:=by omega
                        clear hz
                        go_wp2_with (first | (at_builtin;refine abh rfl _ _ rfl w4.heap.size _ 0 [] rfl hr40 none k0 _ (ab0 (ps.take k0)) rfl HN1.out (fun h=>absurd HK00.out h) HO1.out hl1 (Nat.le_refl _) ?_;intro a5 c5 w5 hr5 hg5))
                        go_meet
                        case rel=>exact⟨a5,c5,by simp,(Below.refl _ w4).grown hg5 (Nat.le_refl _) (fun k hk=>by cases hk),by simpa using hr5⟩
                      · have hcmz:(k0:Int)≤(mc:Int):=by omega
                        have HCL1:Aside (∀j u,(ab0 (ps.take k0))[j]? =some u→w4.cell? ((⟨gm,0,none⟩:Addr).add j)=some u):=(alv (by rw[HPSL.out];exact(HPSL.out▸HJ5.out.ents)) k0 (by rw[HPSL.out];exact hk0)).1
                        go_wp2_with (first | (at_builtin;refine abh rfl _ _ rfl w4.heap.size _ 0 [] rfl hr40 (some ⟨gm,0,none⟩) k0 _ (ab0 (ps.take k0)) rfl HN1.out (fun _=>⟨⟨gm,0,none⟩,rfl,HCL1.out⟩) HO1.out hl1 (Nat.le_refl _) ?_;intro a5 c5 w5 hr5 hg5))
                        go_meet
                        case rel=>exact⟨a5,c5,by simp,(Below.refl _ w4).grown hg5 (Nat.le_refl _) (fun k hk=>by cases hk),by simpa using hr5⟩
                    case rest=>
                      obtain⟨a5,c5,rfl,HR5⟩:=hcut
                      have hm5:=HM5.out.below HR5.out.1 HM5.out.lt
                      have p0:wc.cell? ⟨MB,0,none⟩=some (.slice pa pts.length pc):=hm5.cell 0
                      have p1:wc.cell? ⟨MB,1,none⟩=some (.slice ea els.length ec):=hm5.cell 1
                      have hl3:k0+1≤1048576:=by omega
                      have hsz5:=HR5.out.1.size
                      have hb5a:=HR5.out.1.alloc hsz5 (.cells #[.slice pa pts.length pc,.slice ea els.length ec] 128)
                      have HR5a:Aside ((wc.alloc (.cells #[.slice pa pts.length pc,.slice ea els.length ec] 128)).ownsRow w4.heap.size 128 2 (.slice a5 k0 c5) k0 (ab0 (ps.take k0))):=World.ownsRow.alloc HR5.out.2 _
                      have hX1:=Blk.new wc 128 #[.slice pa pts.length pc,.slice ea els.length ec]
                      have HCX:Aside (∀j u,([.slice pa pts.length pc,.slice ea els.length ec]:List Value)[j]? =some u→(wc.alloc (.cells #[.slice pa pts.length pc,.slice ea els.length ec] 128)).cell? ((⟨wc.heap.size,0,none⟩:Addr).add j)=some u):=fun j u hu=>by
                        rw[Go.WideShapes.add_plain,Nat.zero_add,hX1.cell j]
                        simpa using hu
                      have hOX: ∀u∈([.slice pa pts.length pc,.slice ea els.length ec]:List Value),u.oneCell'=true:=by intro u hu;simp at hu;rcases hu with rfl | rfl<;>rfl
                      have hsz5a:=hb5a.size
                      clear hm5 q0 q1 x0 hX1
                      go_upto_region 25 with (first | (at_builtin;refine abh rfl _ _ rfl w4.heap.size _ k0 (ab0 (ps.take k0)) rfl HR5a.out (some ⟨wc.heap.size,0,none⟩) 1 _ [.slice pa pts.length pc,.slice ea els.length ec] rfl rfl (fun _=>⟨_,rfl,HCX.out⟩) hOX hl3 hsz5a ?_;intro a6 c6 w6 hr6 hg6))
                      have hb6:Below w4.heap.size w4 w6:=hb5a.grown hg6 hsz5a (fun k hk=>(aal HR5a.out hk).1)
                      have HR6:Aside (Below w4.heap.size w4 w6∧w6.ownsRow w4.heap.size 128 2 (.slice a6 (k0+1) c6) (k0+1) (ab0 (ps.take k0)++[.slice pa pts.length pc,.slice ea els.length ec])):=⟨hb6,hr6⟩
                      have x6:w6.cell? ⟨w.heap.size+1,0,none⟩=some (.slice ma acc.length mc):=(HJ5.out.go hb6).box.cell 0
                      have hsz6:=hb6.size
                      clear hg6 hr6 hb6 p0 p1 hl3 hsz5 HR5 HR5a HCX hOX hsz5a hb5a
                      -- what the box holds behind it
                      have HBOX:Aside (∀(a7:Option Addr) (n7 c7:Nat) (w7:World),Below w4.heap.size w4 w7→w7.ownsRow w4.heap.size 128 2 (.slice a7 n7 c7) n7 (ab0 (ps.take k0)++[.slice pa pts.length pc,.slice ea els.length ec]++ab0 (ps.drop k0))→n7=acc.length+1→
                          LE w (.slice (some ⟨gl,0,none⟩) C.length cl) C (l.take k0++[(pts,els)]++l.drop k0) (.slice a7 (acc.length+1) c7) (ps.take k0++[((pts,els),.slice pa pts.length pc,.slice ea els.length ec)]++ps.drop k0) (w7.setCell ⟨w.heap.size+1,0,none⟩ (.slice a7 (acc.length+1) c7))):=fun a7 n7 c7 w7 hb7 hr7 hn7=>by
                        subst hn7
                        have hl:(ps.take k0++[(((pts,els),.slice pa pts.length pc,.slice ea els.length ec):EV)]++ps.drop k0).length=acc.length+1:=by
                          simp only[List.length_append,List.length_take,List.length_drop,List.length_singleton]
                          rw[HPSL.out];omega
                        refine(HJ5.out.go hb7).put (b:=w4.heap.size) ?_ HJ5.out.below.size ?_ ?_
                        · rw[hl,ag5,ag5]
                          exact hr7
                        · intro x hx
                          rcases List.mem_append.1 hx with hx | hx
                          · rcases List.mem_append.1 hx with hx | hx
                            · have hm:=List.mem_of_mem_take hx
                              exact⟨aae (HJ5.out.parts x hm).1 hb7,aae (HJ5.out.parts x hm).2 hb7⟩
                            · rw[List.mem_singleton] at hx
                              subst hx
                              exact⟨aae HOP5.out hb7,aae HOE5.out hb7⟩
                          · have hm:=List.mem_of_mem_drop hx
                            exact⟨aae (HJ5.out.parts x hm).1 hb7,aae (HJ5.out.parts x hm).2 hb7⟩
                        · rw[←HJ5.out.is]
                          simp
                      have HX7:Aside (∀(w7:World),Below w4.heap.size w4 w7→w7.cell? ⟨w.heap.size+1,0,none⟩=some (.slice ma acc.length mc)∧w7.frozen? ⟨w.heap.size+1,0,none⟩=false):=fun w7 hb7=>⟨(HJ5.out.go hb7).box.cell 0,(HJ5.out.go hb7).box.frozen 0⟩
                      have hl2:k0+1+(acc.length-k0)≤1048576:=by omega
                      rcases HMA.out with ⟨rfl,hz,rfl⟩ | ⟨gm,rfl,hcm⟩
                      · have HK00:Hid (k0=0∧acc.length=0):=⟨by omega,hz⟩
                        have hk00:(k0:Int)≤(acc.length:Int):=by omega
                        clear hz
                        go_wp2_with (first | (at_builtin;refine abh rfl _ _ rfl w4.heap.size _ (k0+1) _ rfl HR6.out.2 _ (acc.length-k0) _ (ab0 (ps.drop k0)) rfl HN2.out (fun h=>absurd (by have:=HK00.out;omega) h) HO2.out hl2 hsz6 ?_;intro a7 c7 w7 hr7 hg7;have hb7:Below w4.heap.size w4 w7:=HR6.out.1.grown hg7 hsz6 (fun k hk=>(aal HR6.out.2 hk).1);have x7:=(HX7.out w7 hb7).1;have xz7:=(HX7.out w7 hb7).2))
                        have e7:k0+1+(acc.length-k0)=acc.length+1:=by omega
                        have e8:(acc++[(pts,els)]).length=acc.length+1:=by simp
                        have hL:=HBOX.out a7 _ c7 w7 hb7 hr7 e7
                        have HJ9:Aside (LE w (.slice (some ⟨gl,0,none⟩) C.length cl) C (l.take k0++[(pts,els)]++l.drop k0) (.slice a7 (acc++[(pts,els)]).length c7) (ps.take k0++[((pts,els),.slice pa pts.length pc,.slice ea els.length ec)]++ps.drop k0) (w7.setCell ⟨w.heap.size+1,0,none⟩ (.slice a7 (k0+1+(acc.length-k0)) c7))):=by rw[e7,e8];exact hL
                        clear hL x7 xz7 hr7 hg7 e7 e8
                        go_roundg (C.length-(j+1))
                        case measure=>omega
                        case rel=>exact⟨j+1,acc++[(pts,els)],_,a7,c7,_,by first | rfl | go_num,by omega,by omega,by simp;omega,HSO2,HJ9,HK2⟩
                      · have hcmz:(k0:Int)≤(acc.length:Int):=by omega
                        have hcl2:=(alv (by rw[HPSL.out];exact(HPSL.out▸HJ5.out.ents)) k0 (by rw[HPSL.out];exact hk0))
                        have HCL2:Aside (∀j u,(ab0 (ps.drop k0))[j]? =some u→w6.cell? ((⟨gm,k0*2,none⟩:Addr).add j)=some u):=fun j u hu=>by
                          have:=hcl2.2.1 j u hu
                          rw[Go.WideShapes.add_plain] at this⊢
                          exact(HR6.out.1.cell (p:=⟨gm,k0*2+j,none⟩) hcl2.2.2.2.1).trans this
                        clear hcl2
                        by_cases hk9:mc=k0
                        · have HE9:Hid (acc.length-k0=0):=by show _=_;omega
                          go_wp2_with (first | (at_builtin;refine abh rfl _ _ rfl w4.heap.size _ (k0+1) _ rfl HR6.out.2 _ (acc.length-k0) _ (ab0 (ps.drop k0)) rfl HN2.out (fun h=>absurd HE9.out h) HO2.out hl2 hsz6 ?_;intro a7 c7 w7 hr7 hg7;have hb7:Below w4.heap.size w4 w7:=HR6.out.1.grown hg7 hsz6 (fun k hk=>(aal HR6.out.2 hk).1);have x7:=(HX7.out w7 hb7).1;have xz7:=(HX7.out w7 hb7).2))
                          have e7:k0+1+(acc.length-k0)=acc.length+1:=by omega
                          have e8:(acc++[(pts,els)]).length=acc.length+1:=by simp
                          have hL:=HBOX.out a7 _ c7 w7 hb7 hr7 e7
                          have HJ9:Aside (LE w (.slice (some ⟨gl,0,none⟩) C.length cl) C (l.take k0++[(pts,els)]++l.drop k0) (.slice a7 (acc++[(pts,els)]).length c7) (ps.take k0++[((pts,els),.slice pa pts.length pc,.slice ea els.length ec)]++ps.drop k0) (w7.setCell ⟨w.heap.size+1,0,none⟩ (.slice a7 (k0+1+(acc.length-k0)) c7))):=by rw[e7,e8];exact hL
                          clear hL x7 xz7 hr7 hg7 e7 e8
                          go_roundg (C.length-(j+1))
                          case measure=>omega
                          case rel=>exact⟨j+1,acc++[(pts,els)],_,a7,c7,_,by first | rfl | go_num,by omega,by omega,by simp;omega,HSO2,HJ9,HK2⟩
                        · go_wp2_with (first | (at_builtin;refine abh rfl _ _ rfl w4.heap.size _ (k0+1) _ rfl HR6.out.2 _ (acc.length-k0) _ (ab0 (ps.drop k0)) rfl HN2.out (fun h=>⟨⟨gm,k0*2,none⟩,by first | rfl | simp,HCL2.out⟩) HO2.out hl2 hsz6 ?_;intro a7 c7 w7 hr7 hg7;have hb7:Below w4.heap.size w4 w7:=HR6.out.1.grown hg7 hsz6 (fun k hk=>(aal HR6.out.2 hk).1);have x7:=(HX7.out w7 hb7).1;have xz7:=(HX7.out w7 hb7).2))
                          have e7:k0+1+(acc.length-k0)=acc.length+1:=by omega
                          have e8:(acc++[(pts,els)]).length=acc.length+1:=by simp
                          have hL:=HBOX.out a7 _ c7 w7 hb7 hr7 e7
                          have HJ9:Aside (LE w (.slice (some ⟨gl,0,none⟩) C.length cl) C (l.take k0++[(pts,els)]++l.drop k0) (.slice a7 (acc++[(pts,els)]).length c7) (ps.take k0++[((pts,els),.slice pa pts.length pc,.slice ea els.length ec)]++ps.drop k0) (w7.setCell ⟨w.heap.size+1,0,none⟩ (.slice a7 (k0+1+(acc.length-k0)) c7))):=by rw[e7,e8];exact hL
                          clear hL x7 xz7 hr7 hg7 e7 e8
                          go_roundg (C.length-(j+1))
                          case measure=>omega
                          case rel=>exact⟨j+1,acc++[(pts,els)],_,a7,c7,_,by first | rfl | go_num,by omega,by omega,by simp;omega,HSO2,HJ9,HK2⟩
          · have HF:Hid (ac0 s.data.toList=.error (60,(j:Int)+1)):=by show _=_;rw[HRL.out,←HK.out];exact a1b hltC (by rw[←HT.out];exact hst') (by rw[←HT.out];exact hent)
            have HJ3:Aside (LE w (.slice (some ⟨gl,0,none⟩) C.length cl) C l (.slice ma acc.length mc) ps (w2.alloc (.cells #[.slice pa pn pc,.slice ea en ec] 128))):=HJ3'
            clear hsil hline hb2 HJ2 HK hent hst' HJ
            go_upto_region 10 with fail
            generalize w2.alloc (.cells #[.slice pa pn pc,.slice ea en ec] 128)=w3 at HJ3 HJ3'⊢
            have r0:w3.cell? ⟨w.heap.size,0,none⟩=some (.slice none 0 0):=HJ3'.res.cell 0
            have rz:=HJ3'.res.frozen 0
            clear HJ3' hM3 hb3
            go_wp2_with fail
            refine bodyPost_ret (abp (HJ3.out.res.set 0 (.slice none 0 0)) rfl rfl rfl) rfl ?_
            exact⟨HJ3.out.below.setCell (p:=⟨w.heap.size,0,none⟩) (Nat.le_refl _) _,.inl ⟨_,_,HF.out,rfl⟩⟩
      · obtain rfl:j=kl:=by omega
        have hjz: ¬(j:Int)<(j:Int):=by omega
        have HF:Hid (ac0 s.data.toList=.ok acc):=by show _=_;rw[HRL.out,←HK.out];exact a4l (by rw[←HKL.out];exact Nat.le_refl _)
        have r0:wr.cell? ⟨w.heap.size,0,none⟩=some (.slice none 0 0):=HJ.out.res.cell 0
        have rz:=HJ.out.res.frozen 0
        have hxb:wr.cell? ⟨w.heap.size+1,0,none⟩=some (.slice ma acc.length mc):=HJ.out.box.cell 0
        clear HK
        go_wp2_with fail
        refine bodyPost_ret (abp (HJ.out.res.set 0 (.slice ma acc.length mc)) rfl rfl rfl) rfl ?_
        exact⟨HJ.out.below.setCell (p:=⟨w.heap.size,0,none⟩) (Nat.le_refl _) _,.inr ⟨acc,l,_,_,_,HF.out,HSO.out.1,HSO.out.2.1,rfl,HJ.out.fin2 _⟩⟩
def a03 (m e:List UInt8)(w:World)(r:Ending)(w':World):Prop:=Below w.heap.size w w'∧
  ((∃why which line,aej m e=.error (why,which,line)∧r=.returned (.tuple #[.agg #[.bool false,.slice none 0 0,.slice none 0 0],.int .i64 why,.int .i64 which,.int .i64 line]))∨
   (∃L F E l da dn dc ta tn tc,aej m e=.ok ((L,F),E)∧abb m=.ok (L,F)∧amc l∧l.Perm E∧r=.returned (.tuple #[.agg #[.bool true,.slice da dn dc,.slice ta tn tc],.int .i64 0,.int .i64 0,.int .i64 0])∧MIn w'.heap.size w' (.slice da dn dc) (aai L)∧NOwn w' w.heap.size (.slice ta tn tc) l))
theorem agi {tmps:Array Value}{w:World}{h:Nat}{x y z a b c:Value}(hb:Blk w h 33 #[x,y,z])(t2:tmps[4]?.getD undef=.pointer (some ⟨h,0,none⟩))(t3:tmps[5]?.getD undef=a)(t4:tmps[6]?.getD undef=b)(t5:tmps[7]?.getD undef=c):
    (results Tryz.f6 tmps).run Tryz.prog w=.ok (.tuple #[.agg #[x,y,z],a,b,c]) w:=by
  have c0:w.cell? ⟨h,0,none⟩=some x:=hb.cell 0
  have c1:w.cell? ⟨h,1,none⟩=some y:=hb.cell 1
  have c2:w.cell? ⟨h,2,none⟩=some z:=hb.cell 2
  simp[results,Tryz.results6,go_sem,t2,t3,t4,t5,c0,c1,c2]
theorem a11 {w:World}{v:Value}{l:List PM}{g:Nat}{t:TypeId}{x:Bool}{a1 a2:Option Addr}{n1 n2 c1 c2:Nat}(h:MIn w.heap.size w v l)(hb:Blk w g t #[.bool x,.slice a1 n1 c1,.slice a2 n2 c2])(x' y' z':Value):
    MIn (((w.setCell ⟨g,0,none⟩ x').setCell ⟨g,1,none⟩ y').setCell ⟨g,2,none⟩ z').heap.size (((w.setCell ⟨g,0,none⟩ x').setCell ⟨g,1,none⟩ y').setCell ⟨g,2,none⟩ z') v l:=by
  have hsz:(((w.setCell ⟨g,0,none⟩ x').setCell ⟨g,1,none⟩ y').setCell ⟨g,2,none⟩ z').heap.size=w.heap.size:=by simp[World.setCell]
  have hk: ∀b j,b≠g→(((w.setCell ⟨g,0,none⟩ x').setCell ⟨g,1,none⟩ y').setCell ⟨g,2,none⟩ z').cell? ⟨b,j,none⟩=w.cell? ⟨b,j,none⟩:=fun b j hne=>by
    have:(((w.setCell ⟨g,0,none⟩ x').setCell ⟨g,1,none⟩ y').setCell ⟨g,2,none⟩ z').heap[b]? =w.heap[b]?:=(Below.heap_setCell _ ⟨g,2,none⟩ _ b hne).trans ((Below.heap_setCell _ ⟨g,1,none⟩ _ b hne).trans (Below.heap_setCell _ ⟨g,0,none⟩ _ b hne))
    simp only[World.cell?,this]
  have hni: ∀j k n,w.cell? ⟨g,j,none⟩≠some (.int k n):=fun j k n e=>by
    rw[hb.cell j] at e
    match j,e with
    | 0,e=>simp at e
    | 1,e=>simp at e
    | 2,e=>simp at e
    | j+3,e=>simp at e
  rw[hsz]
  rcases h with h | ⟨b,off,cap,e,hlt,hc⟩
  · exact .inl h
  · refine .inr ⟨b,off,cap,e,hlt,fun j hj=> ?_⟩
    obtain⟨pa,pk,pc,h1,h2,h3,h4⟩:=hc j hj
    have hne:b≠g:=fun e=>hni _ _ _ (by rw[←e];exact h1)
    refine⟨pa,pk,pc,(hk _ _ hne).trans h1,(hk _ _ hne).trans h2,(hk _ _ hne).trans h3,?_⟩
    rcases h4 with h4 | ⟨b2,off2,cap2,e2,hlt2,hc2⟩
    · exact .inl h4
    · refine .inr ⟨b2,off2,cap2,e2,hlt2,fun i hi=> ?_⟩
      have hne2:b2≠g:=fun e=>hni _ _ _ (by rw[←e];exact hc2 i hi)
      exact(hk _ _ hne2).trans (hc2 i hi)
set_option maxHeartbeats 4000000 in
set_option maxRecDepth 20000 in
theorem aqn (m e:ByteArray)(hm:m.size≤281474976710656)(he:e.size≤281474976710656)(w:World):Calls Tryz.prog 6 #[.string m,.string e] w fun r w'=>a03 m.data.toList e.data.toList w r w':=by
  have hb0:=(Below.refl w.heap.size w).alloc (Nat.le_refl _) (.cells #[.bool false,.slice none 0 0,.slice none 0 0] 33)
  have hn0:=Blk.new w 33 #[.bool false,.slice none 0 0,.slice none 0 0]
  go_enter Tryz.func6,Tryz.ntmps6
  go_wp2_with fail
  generalize w.alloc (.cells #[.bool false,.slice none 0 0,.slice none 0 0] 33)=W at hb0 hn0⊢
  refine(asf m hm W).mono ?_
  rintro r w1 ⟨hb1,hp1⟩
  cases h1:abb m.data.toList with
  | error q=>
    obtain⟨why,line⟩:=q
    rw[h1] at hp1
    obtain rfl:r=_:=hp1
    have hy0:=aox h1
    have hy1:(why==0)=false:=by simpa using hy0
    have hy2:(why !=0)=true:=by simpa using hy0
    have hb2:=hb1.alloc hb1.size (.cells #[.slice none 0 0] 28)
    have hn2:=hn0.below hb2 hn0.lt
    have hbw:=hb0.trans (hb2.mono hb0.size)
    have HF:Hid (aej m.data.toList e.data.toList=.error (why,1,line)):=by show _=_;unfold aej;rw[h1]
    go_upto_region 2 with fail
    generalize w1.alloc (.cells #[.slice none 0 0] 28)=w2 at hb2 hn2 hbw⊢
    obtain⟨⟨r0,r1,r2⟩,rz0,rz1,rz2⟩:=abo hn2
    go_wp2_with fail
    refine bodyPost_ret (agi (hn2.set3 _ _ _) rfl rfl rfl rfl) rfl ?_
    exact⟨hbw.trans (abc (Nat.le_refl _)),.inl ⟨_,_,_,HF.out,rfl⟩⟩
  | ok q=>
    obtain⟨L,F⟩:=q
    rw[h1] at hp1
    obtain⟨da,dn,dc,rfl,hD1⟩:=hp1
    have hb2:=(Below.refl w1.heap.size w1).alloc (Nat.le_refl _) (.cells #[.slice da dn dc] 28)
    have hd2:=Blk.new w1 28 #[.slice da dn dc]
    have hD2:=hD1.go hb2
    have hb12:=hb1.trans (hb2.mono hb1.size)
    have hn2:=hn0.below hb12 hn0.lt
    have hbw:=hb0.trans (hb12.mono hb0.size)
    go_upto_region 2 with fail
    generalize w1.alloc (.cells #[.slice da dn dc] 28)=w2 at hb2 hd2 hD2 hb12 hn2 hbw⊢
    generalize w1.heap.size=DB at hd2⊢
    go_wp2_with fail
    refine(ap5 e he w2).mono ?_
    rintro r w3 ⟨hb3,⟨why,line,h2,rfl⟩ | ⟨E,l,ta,tn,tc,h2,hri,hpe,rfl,hN3⟩⟩
    · have hy0:=alg h2
      have hy1:(why==0)=false:=by simpa using hy0
      have hy2:(why !=0)=true:=by simpa using hy0
      have hb4:=hb3.alloc hb3.size (.cells #[.slice none 0 0] 31)
      have hn4:=hn2.below hb4 hn2.lt
      have hbw4:=hbw.trans (hb4.mono hbw.size)
      have HF:Hid (aej m.data.toList e.data.toList=.error (why,2,line)):=by show _=_;unfold aej;rw[h1];simp only[h2]
      go_upto_region 5 with fail
      generalize w3.alloc (.cells #[.slice none 0 0] 31)=w4 at hb4 hn4 hbw4⊢
      obtain⟨⟨r0,r1,r2⟩,rz0,rz1,rz2⟩:=abo hn4
      go_wp2_with fail
      refine bodyPost_ret (agi (hn4.set3 _ _ _) rfl rfl rfl rfl) rfl ?_
      exact⟨hbw4.trans (abc (Nat.le_refl _)),.inl ⟨_,_,_,HF.out,rfl⟩⟩
    · have hb4:=(Below.refl w3.heap.size w3).alloc (Nat.le_refl _) (.cells #[.slice ta tn tc] 31)
      have ht4:=Blk.new w3 31 #[.slice ta tn tc]
      have hb34:=hb3.trans (hb4.mono hb3.size)
      have hN4:=hN3.go hb4
      have hlw:w.heap.size<w2.heap.size:=hn2.lt
      have hD4:=hD2.go hb34
      have hd4:=hd2.below hb34 hd2.lt
      have hn4:=hn2.below hb34 hn2.lt
      have hbw4:=hbw.trans (hb34.mono hbw.size)
      have HF:Hid (aej m.data.toList e.data.toList=.ok ((L,F),E)):=by show _=_;unfold aej;rw[h1];simp only[h2]
      go_upto_region 5 with fail
      generalize w3.alloc (.cells #[.slice ta tn tc] 31)=w4 at hb4 ht4 hN4 hD4 hd4 hn4 hbw4⊢
      generalize w3.heap.size=TB at ht4⊢
      obtain⟨⟨r0,r1,r2⟩,rz0,rz1,rz2⟩:=abo hn4
      have d0:w4.cell? ⟨DB,0,none⟩=some (.slice da dn dc):=hd4.cell 0
      have t0:w4.cell? ⟨TB,0,none⟩=some (.slice ta tn tc):=ht4.cell 0
      go_wp2_with fail
      refine bodyPost_ret (agi (hn4.set3 _ _ _) rfl rfl rfl rfl) rfl ?_
      refine⟨hbw4.trans (abc (Nat.le_refl _)),.inr ⟨L,F,E,l,_,_,_,_,_,_,HF.out,h1,hri,hpe,rfl,?_,?_⟩⟩
      · exact a11 hD4 hn4 _ _ _
      · obtain⟨ps,p1,p2,p3⟩:=((hN4.set (p:=⟨w.heap.size,0,none⟩) hlw (.bool true)).set (p:=⟨w.heap.size,1,none⟩) hlw (.slice da dn dc)).set (p:=⟨w.heap.size,2,none⟩) hlw (.slice ta tn tc)
        exact⟨ps,aah p1 (by omega),fun x hx=>⟨(p2 x hx).1.mono (by omega),aah (p2 x hx).2 (by omega)⟩,p3⟩
end Go.Proofs.YtpfkoldfbecdlaaGreatDoor
