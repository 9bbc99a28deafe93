/- What the document's Load does (a contract; nothing is claimed here). -/
import Derived.Test.YtfhpgmlfgjfknaaGreatDoorJ34
namespace Go.Proofs.YtfhpgmlfgjfknaaGreatDoor
open Go.RowKit Go.Vf Go.Maps
def aur (t:List UInt8)(w:World)(e:Ending)(w':World):Prop:=Below w.heap.size w w'∧match aaw t with
 | .error (why,line)=>e=.returned (.tuple #[.agg #[.slice none 0 0],.int .i64 why,.int .i64 line])
 | .ok (L,_)=> ∃a n c,e=.returned (.tuple #[.agg #[.slice a n c],.int .i64 0,.int .i64 0])∧MIn w'.heap.size w' (.slice a n c) (aag L)
set_option maxHeartbeats 16000000 in
set_option maxRecDepth 20000 in
theorem asx (s:ByteArray)(hbig:s.size≤281474976710656)(w:World):Calls Tryz.prog 52 #[.string s] w fun e w'=>aur s.data.toList w e w':=by
 have HSL:Hid (s.data.toList.length=s.size):=(Lib.size_eq s).symm
 have hb0:=(Below.refl w.heap.size w).alloc (Nat.le_refl _) (.cells #[.slice none 0 0] 62)
 have hn0:=Blk.new w 62 #[.slice none 0 0]
 by_cases hlong:65536<s.size
 ·have hlz:(65536:Int)<(s.size:Int):=by omega
  have hR:aaw s.data.toList=.error (2,0):=by unfold aaw;rw[if_pos (by rw[HSL.out];exact hlong)]
  have HR:Hid (aaw s.data.toList=.error (2,0)):=hR
  clear hR
  go_enter Tryz.func52,Tryz.ntmps52
  go_wp2_with fail
  refine bodyPost_ret (abk hn0 rfl rfl rfl) rfl ?_
  refine⟨hb0,?_⟩
  rw[HR.out]
  exact rfl
 ·have hlz: ¬(65536:Int)<(s.size:Int):=by omega
  have hs:s.size≤65536:=by omega
  have hb1:=hb0.alloc (by simp) (.cells #[.slice none 0 0] 62)
  have hn1:=Blk.new (w.alloc (.cells #[.slice none 0 0] 62)) 62 #[.slice none 0 0]
  have hn0':Blk ((w.alloc (.cells #[.slice none 0 0] 62)).alloc (.cells #[.slice none 0 0] 62)) w.heap.size 62 #[.slice none 0 0]:=hn0.below ((Below.refl _ _).alloc (Nat.le_refl _) _) (by simp)
  rw[show (w.alloc (.cells #[.slice none 0 0] 62)).heap.size=w.heap.size+1 by simp] at hn1
  go_enter Tryz.func52,Tryz.ntmps52
  go_upto_region 4 with fail
  generalize (w.alloc (.cells #[.slice none 0 0] 62)).alloc (.cells #[.slice none 0 0] 62)=W at hb1 hn1 hn0'⊢
  clear hn0 hb0
  go_wp2_with fail
  refine(aj9 s hs W).mono ?_
  rintro e w1 ⟨al,kl,cl,rfl,hol,hbl⟩
  obtain⟨C,hC⟩: ∃C,C=aa3 (10:UInt8) s.data.toList:=⟨_,rfl⟩
  rw[←hC] at hol
  have HC:Hid (C=aa3 (10:UInt8) s.data.toList):=hC
  have hCs: ∀x∈C,x.length≤65536:=fun x hx=>by rw[hC] at hx;exact Nat.le_trans (abj 10 _ x hx) (by rw[HSL.out];exact hs)
  have HCS:Aside _:=hCs
  have hkl:kl=C.length:=by obtain⟨_,_,e⟩:=aax hol;cases e;rfl
  have HKL:Hid (kl=C.length):=hkl
  have hkl2:kl≤65537:=by rw[hkl,hC];have:=abl 10 s.data.toList;rw[HSL.out] at this;omega
  have HJ0:Aside (LJ w (.slice al kl cl) C [] [] [] (.slice none 0 0) (.slice none 0 0) (.slice none 0 0) [] w1):=
   ⟨hn0'.below hbl hn0'.lt,hn1.below hbl hn1.lt,aai hol hb1.size,IOwn.nil _ _,IOwn.nil _ _,World.ownsRow_nil _ _ _ _,by simp,rfl,fun g hg=>by simp[Value.ownBlock] at hg,by simp,hb1.trans (hbl.mono hb1.size)⟩
  obtain⟨RL,hRL⟩: ∃RL,aar C 0 []=RL:=⟨_,rfl⟩
  have HRL:Hid (aar C 0 []=RL):=hRL
  have H0:Hid (aar (C.drop 0) ((0:Nat):Int) []=RL):=hRL
  clear hC hCs hkl hRL hol hbl hn0' hn1 hb1
  go_wp2_with fail
  go_loopg [7,8,9] kl (fun g1 v7 v8 v9 wr=> ∃(j:Nat) (acc:List Mk) (pa:Option Addr) (pc:Nat) (aa:Option Addr) (ac:Nat) (ma:Option Addr) (mc:Nat) (ps:List (PM×Value)),v9=.int .i64 j∧v7=.slice pa acc.length pc∧v8=.slice aa acc.length ac∧j≤kl∧kl-j≤g1∧acc.length≤4096∧(acc.map Mk.point).Nodup∧Aside (LJ w (.slice al kl cl) C (acc.map Mk.point) (acc.map Mk.line) (aag acc) (.slice pa acc.length pc) (.slice aa acc.length ac) (.slice ma acc.length mc) ps wr)∧Hid (aar (C.drop j) (j:Int) acc=RL))
  case atStart=>exact⟨0,[],none,0,none,0,none,0,[],rfl,rfl,rfl,Nat.zero_le _,by omega,by simp,by simp,by simpa[aag] using HJ0,H0⟩
  case round=>
   clear HJ0 H0
   obtain⟨j,acc,pa,pc,aa,ac,ma,mc,ps,rfl,rfl,rfl,hjk,hg1,hacc,hnd,HJ,HK⟩:=hrel
   by_cases hlt:j<kl
   ·have hltz:(j:Int)<(kl:Int):=by omega
    have hltC:j<C.length:=by rw[←HKL.out];exact hlt
    obtain⟨gl,cpl,el,hgl,hgl2,hcl⟩:=HJ.out.lines.cells (by omega)
    cases el
    have hcj:=hcl j hltC
    have hlen:=HCS.out C[j] (List.getElem_mem hltC)
    obtain⟨t,ht⟩: ∃t,t=C[j]:=⟨_,rfl⟩
    rw[←ht] at hcj hlen
    have HT:Hid (t=C[j]):=ht
    have hsil:=anc (bsz t) wr
    rw[show (bsz t).data.toList=t from rfl] at hsil
    clear hcl ht
    by_cases hst:aav t=true
    ·rw[hst] at hsil
     have HK2:Hid (aar (C.drop (j+1)) ((j+1:Nat):Int) acc=RL):=by
      show _=_
      rw[←HK.out,aq1 hltC (by rw[←HT.out];exact hst)];rfl
     clear HK hst
     go_wp2_with fail
     refine hsil.mono ?_
     rintro e wq ⟨rfl,rfl⟩
     go_wp2
     go_roundg (C.length-(j+1))
     case measure=>omega
     case rel=>exact⟨j+1,acc,pa,pc,aa,ac,ma,mc,ps,by first | rfl | go_num,rfl,rfl,by omega,by omega,hacc,hnd,HJ,HK2⟩
    ·have hst':aav t=false:=by simpa using hst
     rw[hst'] at hsil
     clear hst
     have hline:=asy (bsz t) (by rw[abt];exact hlen) wr
     unfold av8 at hline
     rw[show (bsz t).data.toList=t from rfl] at hline
     cases hmk:acj t with
     | none=>
      rw[hmk] at hline
      have hRL:RL=.error (40,(j:Int)+1):=by rw[←HK.out,aw8 hltC (by rw[←HT.out];exact hst') (by rw[←HT.out];exact hmk)]
      have hfin:aaw s.data.toList=.error (40,(j:Int)+1):=by unfold aaw;rw[if_neg (by rw[HSL.out];omega),←HC.out,HRL.out,hRL]
      have HF:Hid (aaw s.data.toList=.error (40,(j:Int)+1)):=hfin
      clear hfin hRL hmk HK
      go_wp2_with fail
      refine hsil.mono ?_
      rintro e wq ⟨rfl,rfl⟩
      go_wp2_with fail
      refine hline.mono ?_
      rintro e w2 ⟨hb2,p,kk,a2,n2,c2,rfl⟩
      have HJ2:Aside (LJ w (.slice (some ⟨gl,0,none⟩) C.length cl) C (acc.map Mk.point) (acc.map Mk.line) (aag acc) (.slice pa acc.length pc) (.slice aa acc.length ac) (.slice ma acc.length mc) ps w2):=HJ.out.go hb2
      clear hsil hline hb2 HJ
      go_upto_region 11 with fail
      have hb3:=(Below.refl w2.heap.size w2).alloc (Nat.le_refl _) (.cells #[.int .i64 p,.int .i64 kk,.slice a2 n2 c2] 153)
      have HJ3:=HJ2.out.go hb3
      generalize w2.alloc (.cells #[.int .i64 p,.int .i64 kk,.slice a2 n2 c2] 153)=w3 at HJ3⊢
      have r0:w3.cell? ⟨w.heap.size,0,none⟩=some (.slice none 0 0):=HJ3.res.cell 0
      have rz:=HJ3.res.frozen 0
      have HJ3:Aside (LJ w (.slice (some ⟨gl,0,none⟩) C.length cl) C (acc.map Mk.point) (acc.map Mk.line) (aag acc) (.slice pa acc.length pc) (.slice aa acc.length ac) (.slice ma acc.length mc) ps w3):=HJ3
      clear hb3 HJ2
      go_wp2_with fail
      refine bodyPost_ret (abk (HJ3.out.res.set 0 (.slice none 0 0)) rfl rfl rfl) rfl ?_
      refine⟨HJ3.out.below.setCell (p:=⟨w.heap.size,0,none⟩) (Nat.le_refl _) _,?_⟩
      rw[HF.out]
      exact rfl
     | some r=>
      obtain⟨p,kk,lpt⟩:=r
      rw[hmk] at hline
      have HMK:Hid (acj t=some (p,kk,lpt)):=hmk
      clear hmk
      go_wp2_with fail
      refine hsil.mono ?_
      rintro e wq ⟨rfl,rfl⟩
      go_wp2_with fail
      refine hline.mono ?_
      rintro e w2 ⟨hb2,a2,n2,c2,rfl,hop⟩
      have hspA:Apt (.slice pa acc.length pc) (.slice a2 n2 c2):=a1z HJ.out.points hop (Nat.le_refl _)
      have hspB:Apt (.slice aa acc.length ac) (.slice a2 n2 c2):=a1z HJ.out.ats hop (Nat.le_refl _)
      have hop2:IOwn w2 w.heap.size (.slice a2 n2 c2) lpt:=hop.mono HJ.out.below.size
      have HJ2:Aside (LJ w (.slice (some ⟨gl,0,none⟩) C.length cl) C (acc.map Mk.point) (acc.map Mk.line) (aag acc) (.slice pa acc.length pc) (.slice aa acc.length ac) (.slice ma acc.length mc) ps w2):=HJ.out.go hb2
      have HSP:Aside (Apt (.slice pa acc.length pc) (.slice a2 n2 c2)∧Apt (.slice aa acc.length ac) (.slice a2 n2 c2)):=⟨hspA,hspB⟩
      clear hsil hline hb2 HJ hop hspA hspB
      go_upto_region 11 with fail
      have hb3:=(Below.refl w2.heap.size w2).alloc (Nat.le_refl _) (.cells #[.int .i64 p,.int .i64 kk,.slice a2 n2 c2] 153)
      have HJ3:=HJ2.out.go hb3
      have hM3:=Blk.new w2 153 #[.int .i64 p,.int .i64 kk,.slice a2 n2 c2]
      have hop3:IOwn _ w.heap.size (.slice a2 n2 c2) lpt:=aad hop2 hb3
      generalize w2.alloc (.cells #[.int .i64 p,.int .i64 kk,.slice a2 n2 c2] 153)=w3 at HJ3 hM3 hop3⊢
      generalize w2.heap.size=MB at hM3⊢
      have r0:w3.cell? ⟨w.heap.size,0,none⟩=some (.slice none 0 0):=HJ3.res.cell 0
      have rz:=HJ3.res.frozen 0
      have x0:w3.cell? ⟨w.heap.size+1,0,none⟩=some (.slice ma acc.length mc):=HJ3.box.cell 0
      have m0:w3.cell? ⟨MB,0,none⟩=some (.int .i64 p):=hM3.cell 0
      have hpl:=ag3 (aag acc) (acl hnd) (by rw[adm];omega) (.slice ma acc.length mc) p w3.heap.size w3 (Nat.le_refl _) HJ3.min
      have HJ3:Aside (LJ w (.slice (some ⟨gl,0,none⟩) C.length cl) C (acc.map Mk.point) (acc.map Mk.line) (aag acc) (.slice pa acc.length pc) (.slice aa acc.length ac) (.slice ma acc.length mc) ps w3):=HJ3
      have HM3:Aside (Blk w3 MB 153 #[.int .i64 p,.int .i64 kk,.slice a2 n2 c2]):=hM3
      have HOP3:Aside (IOwn w3 w.heap.size (.slice a2 n2 c2) lpt):=hop3
      clear hb3 HJ2 hM3 hop3 hop2
      go_wp2_with fail
      refine hpl.mono ?_
      rintro e w4 ⟨k0,b0,hpa,rfl,hfd,hb4⟩
      have HJ4:Aside (LJ w (.slice (some ⟨gl,0,none⟩) C.length cl) C (acc.map Mk.point) (acc.map Mk.line) (aag acc) (.slice pa acc.length pc) (.slice aa acc.length ac) (.slice ma acc.length mc) ps w4):=HJ3.out.go hb4
      have HM4:Aside (Blk w4 MB 153 #[.int .i64 p,.int .i64 kk,.slice a2 n2 c2]):=HM3.out.below hb4 HM3.out.lt
      have HOP4:Aside (IOwn w4 w.heap.size (.slice a2 n2 c2) lpt):=aad HOP3.out hb4
      clear hb4 HJ3 HM3 HOP3 hpl r0 rz x0 m0
      have r0:w4.cell? ⟨w.heap.size,0,none⟩=some (.slice none 0 0):=HJ4.out.res.cell 0
      have rz:=HJ4.out.res.frozen 0
      rcases hfd with ⟨rfl,hk0,hpt⟩ | ⟨rfl,hno⟩
      ·-- the point stands there
       have hany:acc.any (fun m=>m.point==p)=true:=(ano p).1 ⟨k0,hk0,hpt⟩
       have hRL:RL=.error (41,(j:Int)+1):=by rw[←HK.out,atq hltC (by rw[←HT.out];exact hst') (by rw[←HT.out];exact HMK.out) hany]
       have HF:Hid (aaw s.data.toList=.error (41,(j:Int)+1)):=by show _=_;unfold aaw;rw[if_neg (by rw[HSL.out];omega),←HC.out,HRL.out,hRL]
       clear hRL hany HK hk0 hpt hpa HMK
       go_wp2_with fail
       refine bodyPost_ret (abk (HJ4.out.res.set 0 (.slice none 0 0)) rfl rfl rfl) rfl ?_
       refine⟨HJ4.out.below.setCell (p:=⟨w.heap.size,0,none⟩) (Nat.le_refl _) _,?_⟩
       rw[HF.out]
       exact rfl
      ·have hany:acc.any (fun m=>m.point==p)=false:=by
        cases h:acc.any (fun m=>m.point==p) with
        | false=>rfl
        | true=>obtain⟨i,hi,e⟩:=(ano p).2 h;exact absurd e (hno i hi)
       have x0:w4.cell? ⟨w.heap.size+1,0,none⟩=some (.slice ma acc.length mc):=HJ4.out.box.cell 0
       by_cases hfull:4096≤acc.length
       ·have hfz:(4096:Int)≤(acc.length:Int):=by omega
        have hRL:RL=.error (2,(j:Int)+1):=by rw[←HK.out,axa hltC (by rw[←HT.out];exact hst') (by rw[←HT.out];exact HMK.out) hany hfull]
        have HF:Hid (aaw s.data.toList=.error (2,(j:Int)+1)):=by show _=_;unfold aaw;rw[if_neg (by rw[HSL.out];omega),←HC.out,HRL.out,hRL]
        clear hRL hany HK hno hpa HMK
        go_wp2_with fail
        refine bodyPost_ret (abk (HJ4.out.res.set 0 (.slice none 0 0)) rfl rfl rfl) rfl ?_
        refine⟨HJ4.out.below.setCell (p:=⟨w.heap.size,0,none⟩) (Nat.le_refl _) _,?_⟩
        rw[HF.out]
        exact rfl
       ·have hfz: ¬(4096:Int)≤(acc.length:Int):=by omega
        have HK2:Hid (aar (C.drop (j+1)) ((j+1:Nat):Int) (acc++[⟨(j:Int)+1,p,kk,lpt⟩])=RL):=by
         show _=_
         rw[←HK.out,aw9 hltC (by rw[←HT.out];exact hst') (by rw[←HT.out];exact HMK.out) hany (by omega)];rfl
        have hpn:p∉acc.map Mk.point:=fun h=>by
         obtain⟨m,hm,e⟩:=List.mem_map.1 h
         have:acc.any (fun m=>m.point==p)=true:=List.any_eq_true.2 ⟨m,hm,by simp[e]⟩
         rw[hany] at this;cases this
        have HPUT:Hid (aag (acc++[⟨(j:Int)+1,p,kk,lpt⟩])=(aag acc).take k0++[⟨p,kk,lpt⟩]++(aag acc).drop k0):=aw2 hnd (m:=⟨(j:Int)+1,p,kk,lpt⟩) hpn hpa
        have HND:Hid (((acc++[(⟨(j:Int)+1,p,kk,lpt⟩:Mk)]).map Mk.point).Nodup):=by
         show List.Nodup _
         rw[List.map_append,List.nodup_append]
         refine⟨hnd,by simp,fun a ha b hb e=> ?_⟩
         simp at hb
         subst hb
         exact hpn (e▸ha)
        have hk0:k0≤acc.length:=by have:=hpa.le;rw[adm] at this;exact this
        have hk0z:(k0:Int)≤(acc.length:Int):=by omega
        have hpsl:ps.length=acc.length:=by have:=congrArg List.length HJ4.out.is;rw[List.length_map,adm] at this;exact this
        have HPSL:Hid (ps.length=acc.length):=hpsl
        clear hany HK hno hpa HMK r0 rz hpn hpsl
        have q0:w4.cell? ⟨MB,0,none⟩=some (.int .i64 p):=HM4.out.cell 0
        have q1:w4.cell? ⟨MB,1,none⟩=some (.int .i64 kk):=HM4.out.cell 1
        have q2:w4.cell? ⟨MB,2,none⟩=some (.slice a2 n2 c2):=HM4.out.cell 2
        have hn1:(abr (ps.take k0)).length=k0*3:=by rw[alz,List.length_take,HPSL.out];omega
        have hn2:(abr (ps.drop k0)).length=(acc.length-k0)*3:=by rw[alz,List.length_drop,HPSL.out]
        have ho1: ∀u∈abr (ps.take k0),u.oneCell'=true:=arc (fun x hx=>HJ4.out.parts x (List.mem_of_mem_take hx))
        have ho2: ∀u∈abr (ps.drop k0),u.oneCell'=true:=arc (fun x hx=>HJ4.out.parts x (List.mem_of_mem_drop hx))
        have HN1:Aside _:=hn1
        have HN2:Aside _:=hn2
        have HO1:Aside _:=ho1
        have HO2:Aside _:=ho2
        have HMA:Hid ((ma=none∧acc.length=0∧mc=0)∨ ∃g,ma=some ⟨g,0,none⟩∧acc.length≤mc):=by
         rcases HJ4.out.marks.2 with ⟨e0,hz0⟩ | ⟨gm,cpm,curm,em,hbm,hgm,hcm,_⟩
         ·obtain⟨e1,e2,e3⟩:=Value.slice.inj e0
          exact .inl ⟨e1,e2,e3⟩
         ·obtain⟨e1,e2,e3⟩:=Value.slice.inj em
          exact .inr ⟨gm,e1,by rw[e3,←HPSL.out];exact hcm⟩
        clear hn1 hn2 ho1 ho2
        go_upto_region 19 with fail
        go_cut [14] from 23 to 91 (fun v14 wx=> ∃a5 c5,v14=.slice a5 k0 c5∧Aside (Below w4.heap.size w4 wx∧wx.ownsRow w4.heap.size 153 3 (.slice a5 k0 c5) k0 (abr (ps.take k0))))
        case first=>
         have hr40:w4.ownsRow w4.heap.size 153 3 (.slice none 0 0) 0 []:=World.ownsRow_nil _ _ _ _
         have hl1:0+k0≤1048576:=by omega
         rcases HMA.out with ⟨rfl,hz,rfl⟩ | ⟨gm,rfl,hcm⟩
         ·have HK00:Hid (k0=0):=by show _=_;omega
          have hk00:(k0:Int)≤0:=by omega
          clear hz
          go_wp2_with (first | (at_builtin;refine ab2 rfl _ _ rfl w4.heap.size _ 0 [] rfl hr40 none k0 _ (abr (ps.take k0)) rfl HN1.out (fun h=>absurd HK00.out h) HO1.out hl1 (Nat.le_refl _) ?_;intro a5 c5 w5 hr5 hg5 hat5))
          go_meet
          case rel=>exact⟨a5,c5,by simp,(Below.refl _ w4).grown hg5 (Nat.le_refl _) (fun k hk=>by cases hk),by simpa using hr5⟩
         ·have hcmz:(k0:Int)≤(mc:Int):=by omega
          have hcl1:=(al0 (by rw[HPSL.out];exact(HPSL.out▸HJ4.out.marks)) k0 (by rw[HPSL.out];exact hk0)).1
          have HCL1:Aside _:=hcl1
          clear hcl1
          go_wp2_with (first | (at_builtin;refine ab2 rfl _ _ rfl w4.heap.size _ 0 [] rfl hr40 (some ⟨gm,0,none⟩) k0 _ (abr (ps.take k0)) rfl HN1.out (fun _=>⟨⟨gm,0,none⟩,rfl,HCL1.out⟩) HO1.out hl1 (Nat.le_refl _) ?_;intro a5 c5 w5 hr5 hg5 hat5))
          go_meet
          case rel=>exact⟨a5,c5,by simp,(Below.refl _ w4).grown hg5 (Nat.le_refl _) (fun k hk=>by cases hk),by simpa using hr5⟩
        case rest=>
         obtain⟨a5,c5,rfl,HR5⟩:=hcut
         have hm5:=HM4.out.below HR5.out.1 HM4.out.lt
         have p0:wc.cell? ⟨MB,0,none⟩=some (.int .i64 p):=hm5.cell 0
         have p1:wc.cell? ⟨MB,1,none⟩=some (.int .i64 kk):=hm5.cell 1
         have p2:wc.cell? ⟨MB,2,none⟩=some (.slice a2 n2 c2):=hm5.cell 2
         have hl3:k0≤1099511627776:=by omega
         have hsz5:=HR5.out.1.size
         clear hm5 q0 q1 q2 x0
         go_upto_region 21 with (first | (at_builtin;refine ah1 rfl _ _ rfl w4.heap.size _ k0 (abr (ps.take k0)) rfl HR5.out.2 p kk a2 n2 c2 rfl hl3 hsz5 ?_;intro a6 c6 w6 hr6 hg6 hat6))
         have hb6:Below w4.heap.size w4 w6:=(HR5.out.1.alloc hsz5 (.cells #[.int .i64 p,.int .i64 kk,.slice a2 n2 c2] 153)).grown hg6 (by simp;omega) (fun k hk=>(aan HR5.out.2 hk).1)
         have HR6:Aside (Below w4.heap.size w4 w6∧w6.ownsRow w4.heap.size 153 3 (.slice a6 (k0+1) c6) (k0+1) (abr (ps.take k0)++[.int .i64 p,.int .i64 kk,.slice a2 n2 c2])):=⟨hb6,hr6⟩
         have x6:w6.cell? ⟨w.heap.size+1,0,none⟩=some (.slice ma acc.length mc):=(HJ4.out.go hb6).box.cell 0
         clear hat6 hg6 hr6 hb6 p0 p1 p2 hl3 hsz5 HR5
         -- what the box holds behind it
         have hbox: ∀(a7:Option Addr) (n7 c7:Nat) (w7:World),Below w4.heap.size w4 w7→w7.ownsRow w4.heap.size 153 3 (.slice a7 n7 c7) n7 (abr (ps.take k0)++[.int .i64 p,.int .i64 kk,.slice a2 n2 c2]++abr (ps.drop k0))→n7=acc.length+1→
           LJ w (.slice (some ⟨gl,0,none⟩) C.length cl) C (acc.map Mk.point) (acc.map Mk.line) (aag (acc++[⟨(j:Int)+1,p,kk,lpt⟩])) (.slice pa acc.length pc) (.slice aa acc.length ac) (.slice a7 (acc.length+1) c7) (ps.take k0++[(⟨p,kk,lpt⟩,.slice a2 n2 c2)]++ps.drop k0) (w7.setCell ⟨w.heap.size+1,0,none⟩ (.slice a7 (acc.length+1) c7)):=fun a7 n7 c7 w7 hb7 hr7 hn7=>by
          subst hn7
          have hl:(ps.take k0++[((⟨p,kk,lpt⟩:PM),Value.slice a2 n2 c2)]++ps.drop k0).length=acc.length+1:=by
           simp only[List.length_append,List.length_take,List.length_drop,List.length_singleton]
           rw[HPSL.out];omega
          refine(HJ4.out.go hb7).mark (b:=w4.heap.size) ?_ HJ4.out.below.size ?_ ?_
          ·rw[hl,ag8,ag8]
           exact hr7
          ·intro x hx
           rcases List.mem_append.1 hx with hx | hx
           ·rcases List.mem_append.1 hx with hx | hx
            ·have hm:=List.mem_of_mem_take hx
             exact⟨aad (HJ4.out.parts x hm) hb7,HJ4.out.sepP x hm⟩
            ·rw[List.mem_singleton] at hx
             subst hx
             exact⟨aad HOP4.out hb7,HSP.out⟩
           ·have hm:=List.mem_of_mem_drop hx
            exact⟨aad (HJ4.out.parts x hm) hb7,HJ4.out.sepP x hm⟩
          ·rw[HPUT.out,←HJ4.out.is]
           simp
         have HBOX:Aside _:=hbox
         have hmk7: ∀(v:Value) (w7:World),Below w4.heap.size w4 w7→Blk (w7.setCell ⟨w.heap.size+1,0,none⟩ v) MB 153 #[.int .i64 p,.int .i64 kk,.slice a2 n2 c2]:=fun v w7 hb7=>by
          refine(Below.heap_setCell w7 ⟨w.heap.size+1,0,none⟩ _ MB ?_).trans (HM4.out.below hb7 HM4.out.lt)
          show MB≠w.heap.size+1
          exact ar1 HM4.out HJ4.out.box (by decide)
         have HMK7:Aside _:=hmk7
         have hx7: ∀(w7:World),Below w4.heap.size w4 w7→w7.cell? ⟨w.heap.size+1,0,none⟩=some (.slice ma acc.length mc)∧w7.frozen? ⟨w.heap.size+1,0,none⟩=false:=fun w7 hb7=>⟨(HJ4.out.go hb7).box.cell 0,(HJ4.out.go hb7).box.frozen 0⟩
         have HX7:Aside _:=hx7
         have hl2:k0+1+(acc.length-k0)≤1048576:=by omega
         have hsz6:=HR6.out.1.size
         clear hbox hmk7 hx7
         go_cut [14] from 23 to 91 (fun _ wx=> ∃a7 c7 ps',Aside (LJ w (.slice (some ⟨gl,0,none⟩) C.length cl) C (acc.map Mk.point) (acc.map Mk.line) (aag (acc++[⟨(j:Int)+1,p,kk,lpt⟩])) (.slice pa acc.length pc) (.slice aa acc.length ac) (.slice a7 (acc.length+1) c7) ps' wx∧Blk wx MB 153 #[.int .i64 p,.int .i64 kk,.slice a2 n2 c2]))
         case first=>
          rcases HMA.out with ⟨rfl,hz,rfl⟩ | ⟨gm,rfl,hcm⟩
          ·have HK00:Hid (k0=0∧acc.length=0):=⟨by omega,hz⟩
           have hk00:(k0:Int)≤(acc.length:Int):=by omega
           clear hz
           go_wp2_with (first | (at_builtin;refine ab2 rfl _ _ rfl w4.heap.size _ (k0+1) _ rfl HR6.out.2 _ (acc.length-k0) _ (abr (ps.drop k0)) rfl HN2.out (fun h=>absurd (by have:=HK00.out;omega) h) HO2.out hl2 hsz6 ?_;intro a7 c7 w7 hr7 hg7 hat7;have hb7:Below w4.heap.size w4 w7:=HR6.out.1.grown hg7 hsz6 (fun k hk=>(aan HR6.out.2 hk).1);have x7:=(HX7.out w7 hb7).1;have xz7:=(HX7.out w7 hb7).2))
           go_meet
           case rel=>
            have e7:k0+1+(acc.length-k0)=acc.length+1:=by omega
            have hL:=HBOX.out a7 _ c7 w7 hb7 hr7 e7
            have hM:=HMK7.out (.slice a7 (acc.length+1) c7) w7 hb7
            rw[e7]
            exact⟨a7,c7,_,hL,hM⟩
          ·have hcmz:(k0:Int)≤(acc.length:Int):=by omega
           have hcl2:=(al0 (by rw[HPSL.out];exact(HPSL.out▸HJ4.out.marks)) k0 (by rw[HPSL.out];exact hk0))
           have hcl3: ∀j u,(abr (ps.drop k0))[j]? =some u→w6.cell? ((⟨gm,k0*3,none⟩:Addr).add j)=some u:=fun j u hu=>by
            have:=hcl2.2.1 j u hu
            rw[Go.WideShapes.add_plain] at this⊢
            exact(HR6.out.1.cell (p:=⟨gm,k0*3+j,none⟩) hcl2.2.2.2.1).trans this
           have HCL2:Aside _:=hcl3
           clear hcl2 hcl3
           by_cases hk9:mc=k0
           ·have HE9:Hid (acc.length-k0=0):=by show _=_;omega
            go_wp2_with (first | (at_builtin;refine ab2 rfl _ _ rfl w4.heap.size _ (k0+1) _ rfl HR6.out.2 _ (acc.length-k0) _ (abr (ps.drop k0)) rfl HN2.out (fun h=>absurd HE9.out h) HO2.out hl2 hsz6 ?_;intro a7 c7 w7 hr7 hg7 hat7;have hb7:Below w4.heap.size w4 w7:=HR6.out.1.grown hg7 hsz6 (fun k hk=>(aan HR6.out.2 hk).1);have x7:=(HX7.out w7 hb7).1;have xz7:=(HX7.out w7 hb7).2))
            go_meet
            case rel=>
             have e7:k0+1+(acc.length-k0)=acc.length+1:=by omega
             have hL:=HBOX.out a7 _ c7 w7 hb7 hr7 e7
             have hM:=HMK7.out (.slice a7 (acc.length+1) c7) w7 hb7
             rw[e7]
             exact⟨a7,c7,_,hL,hM⟩
           ·go_wp2_with (first | (at_builtin;refine ab2 rfl _ _ rfl w4.heap.size _ (k0+1) _ rfl HR6.out.2 _ (acc.length-k0) _ (abr (ps.drop k0)) rfl HN2.out (fun h=>⟨⟨gm,k0*3,none⟩,by first | rfl | simp,HCL2.out⟩) HO2.out hl2 hsz6 ?_;intro a7 c7 w7 hr7 hg7 hat7;have hb7:Below w4.heap.size w4 w7:=HR6.out.1.grown hg7 hsz6 (fun k hk=>(aan HR6.out.2 hk).1);have x7:=(HX7.out w7 hb7).1;have xz7:=(HX7.out w7 hb7).2))
            go_meet
            case rel=>
             have e7:k0+1+(acc.length-k0)=acc.length+1:=by omega
             have hL:=HBOX.out a7 _ c7 w7 hb7 hr7 e7
             have hM:=HMK7.out (.slice a7 (acc.length+1) c7) w7 hb7
             rw[e7]
             exact⟨a7,c7,_,hL,hM⟩
         case rest=>
          obtain⟨a7,c7,ps',HL7⟩:=hcut
          clear HX7 HMK7 HBOX HR6 HN1 HN2 HO1 HO2 HMA x6 hsz6 hl2 HPUT HM4 HOP4 HSP HJ4 HPSL
          have hbA:=(Below.refl wc.heap.size wc).alloc (Nat.le_refl _) (.cells #[.int .i64 p] 3)
          have hLA:=HL7.out.1.go hbA
          have hnA:=Blk.new wc 3 #[.int .i64 p]
          have g0:wc.cell? ⟨MB,0,none⟩=some (.int .i64 p):=HL7.out.2.cell 0
          have hcA: ∀i,i< [p].length→(wc.alloc (.cells #[.int .i64 p] 3)).cell? ((⟨wc.heap.size,0,none⟩:Addr).add i)=some (.int .i64 ([p][i]?.getD 0)):=fun i hi=>by
           obtain rfl:i=0:=by simpa using hi
           rw[Go.WideShapes.add_plain]
           exact hnA.cell 0
          have HLA:Aside (LJ w (.slice (some ⟨gl,0,none⟩) C.length cl) C (acc.map Mk.point) (acc.map Mk.line) (aag (acc++[⟨(j:Int)+1,p,kk,lpt⟩])) (.slice pa acc.length pc) (.slice aa acc.length ac) (.slice a7 (acc.length+1) c7) ps' (wc.alloc (.cells #[.int .i64 p] 3))):=hLA
          have HCA:Aside _:=hcA
          have hpl:(acc.map Mk.point).length+[p].length≤1099511627776:=by simp;omega
          have hbzA:=HLA.out.below.size
          clear hbA hLA hnA hcA HL7
          go_upto_region 23 with (first | (at_builtin;refine aao rfl _ _ rfl w.heap.size _ (acc.map Mk.point) (by first | rfl | simp) HLA.out.points [p] ⟨wc.heap.size,0,none⟩ _ rfl HCA.out hpl hbzA ?_;intro a8 c8 w8 hown8 hgr8 hnil8 hat8))
          have hL8:=HLA.out.point hgr8 hown8 hat8
          have e8:(acc.map Mk.point).length+[p].length=acc.length+1:=by simp
          rw[e8] at hL8
          have hbB:=(Below.refl w8.heap.size w8).alloc (Nat.le_refl _) (.cells #[.int .i64 ((j:Int)+1)] 3)
          have hLB:=hL8.go hbB
          have hnB:=Blk.new w8 3 #[.int .i64 ((j:Int)+1)]
          have hcB: ∀i,i< [(j:Int)+1].length→(w8.alloc (.cells #[.int .i64 ((j:Int)+1)] 3)).cell? ((⟨w8.heap.size,0,none⟩:Addr).add i)=some (.int .i64 ([(j:Int)+1][i]?.getD 0)):=fun i hi=>by
           obtain rfl:i=0:=by simpa using hi
           rw[Go.WideShapes.add_plain]
           exact hnB.cell 0
          have HLB:Aside (LJ w (.slice (some ⟨gl,0,none⟩) C.length cl) C (acc.map Mk.point++[p]) (acc.map Mk.line) (aag (acc++[⟨(j:Int)+1,p,kk,lpt⟩])) (.slice a8 (acc.length+1) c8) (.slice aa acc.length ac) (.slice a7 (acc.length+1) c7) ps' (w8.alloc (.cells #[.int .i64 ((j:Int)+1)] 3))):=hLB
          have HCB:Aside _:=hcB
          have hpl2:(acc.map Mk.line).length+[(j:Int)+1].length≤1099511627776:=by simp;omega
          have hbzB:=HLB.out.below.size
          clear hbB hLB hnB hcB hL8 HLA HCA hown8 hgr8 hnil8 hat8 e8 g0 hpl hbzA
          go_wp2_with (first | (at_builtin;refine aao rfl _ _ rfl w.heap.size _ (acc.map Mk.line) (by first | rfl | simp) HLB.out.ats [(j:Int)+1] ⟨w8.heap.size,0,none⟩ _ rfl HCB.out hpl2 hbzB ?_;intro a9 c9 w9 hown9 hgr9 hnil9 hat9))
          have hL9:=HLB.out.at hgr9 hown9 hat9
          have e9:(acc.map Mk.line).length+[(j:Int)+1].length=acc.length+1:=by simp
          rw[e9] at hL9
          have HL9:Aside (LJ w (.slice (some ⟨gl,0,none⟩) C.length cl) C ((acc++[(⟨(j:Int)+1,p,kk,lpt⟩:Mk)]).map Mk.point) ((acc++[(⟨(j:Int)+1,p,kk,lpt⟩:Mk)]).map Mk.line) (aag (acc++[(⟨(j:Int)+1,p,kk,lpt⟩:Mk)])) (.slice a8 (acc++[(⟨(j:Int)+1,p,kk,lpt⟩:Mk)]).length c8) (.slice a9 (acc++[(⟨(j:Int)+1,p,kk,lpt⟩:Mk)]).length c9) (.slice a7 (acc++[(⟨(j:Int)+1,p,kk,lpt⟩:Mk)]).length c7) ps' w9):=by
           simp only[List.map_append,List.map_cons,List.map_nil,List.length_append,List.length_cons,List.length_nil,Nat.zero_add]
           exact hL9
          clear hL9 HLB HCB hown9 hgr9 hnil9 hat9 e9
          go_roundg (C.length-(j+1))
          case measure=>omega
          case rel=>exact⟨j+1,acc++[⟨(j:Int)+1,p,kk,lpt⟩],a8,c8,a9,c9,a7,c7,ps',by first | rfl | go_num,by simp,by simp,by omega,by omega,by simp;omega,HND.out,HL9,HK2⟩
   ·have hltz: ¬(j:Int)<(kl:Int):=by omega
    have hLl:aar (aa3 10 s.data.toList) 0 []=.ok acc:=by rw[←HC.out,HRL.out,←HK.out,az3 (by rw[←HKL.out];omega)]
    have hlen:s.data.toList.length≤65536:=by rw[HSL.out];exact hs
    have HLL:Aside (aar (aa3 10 s.data.toList) 0 []=.ok acc):=hLl
    have HLEN:Aside (s.data.toList.length≤65536):=hlen
    have hPf:aal (aag acc)=aab acc:=afj hnd
    have hpl: ∀p,(aal (aag acc) p).length≤131072:=fun p=>(agf hlen hLl p).2
    have hns: ∀p,∀q∈aal (aag acc) p,ab7 q=false:=fun p=>(agf hlen hLl p).1
    have hrise:=acl hnd
    have hll:(aag acc).length≤1048576:=by rw[adm];omega
    have HBACK:Aside (∀(p:Int) (x:World),MIn x.heap.size x (.slice ma acc.length mc) (aag acc)→Calls Tryz.prog 97 #[.agg #[.slice ma acc.length mc],.int .i64 p] x fun e w'=>(∃b,e=.returned (.bool b)∧(b=true↔Lead (aab acc) p p))∧Below x.heap.size x w'):=fun p x hx=>by
     have:=asz (aag acc) hrise hll hpl _ p x.heap.size x (Nat.le_refl _) hx
     rw[hPf] at this
     exact this
    have HWHO:Aside (∀(k:Nat) (p:Int),ab7 p=false→Dep (aab acc) k p→ ∀(x:World),MIn x.heap.size x (.slice ma acc.length mc) (aag acc)→Calls Tryz.prog 98 #[.agg #[.slice ma acc.length mc],.slice none 0 0,.int .i64 p,.int .i64 18] x fun e w'=> ∃a n c,e=.returned (.slice a n c)∧Hid (n≤19∧(18<n↔18<(wh (aab acc) k p).length))∧Below x.heap.size x w'):=fun k p hp hd x hx=>by
     have hwl:=awa (aab acc) k p
     have:=aj8 (aag acc) hrise hll hns hpl ma acc.length mc x.heap.size 18 (by omega) k p hp (by rw[hPf];exact hd) [] (.slice none 0 0) x.heap.size x (by rw[hPf];omega) (Nat.le_refl _) (Nat.le_refl _) hx (IOwn.nil _ _)
     refine this.mono fun e w' h=> ?_
     obtain⟨a,n,c,h1,h2,h3⟩:=h
     refine⟨a,n,c,h1,?_,(Below.refl _ x).grown h3.by_ (Nat.le_refl _) (fun k hk=>by cases hk)⟩
     have hn:n=(whF (aal (aag acc)) 18 k [] p).length:=by
      obtain⟨_,_,e⟩:=h2.val
      exact(Value.slice.inj e).2.1
     rw[hPf] at hn
     rw[hn]
     exact hwl
    have hno0:Hid (∀x∈acc.take 0,¬Lead (aab acc) x.point x.point):=fun x hx=>by simp at hx
    clear hLl hlen hPf hpl hns hrise hll HK HRL HC HCS hnd
    go_wp2_with fail
    go_loopg [15] acc.length (fun g2 v wr=> ∃(i:Nat),v=.int .i64 i∧i≤acc.length∧acc.length-i≤g2∧Aside (LJ w (.slice al kl cl) C (acc.map Mk.point) (acc.map Mk.line) (aag acc) (.slice pa acc.length pc) (.slice aa acc.length ac) (.slice ma acc.length mc) ps wr)∧Hid (∀x∈acc.take i,¬Lead (aab acc) x.point x.point))
    case atStart=>exact⟨0,rfl,Nat.zero_le _,by omega,HJ,hno0⟩
    case round=>
     clear HJ hno0
     obtain⟨i,rfl,hi,hg2,HJ,HNO⟩:=hrel
     by_cases hil:i<acc.length
     ·have hilz:(i:Int)<(acc.length:Int):=by omega
      obtain⟨m,hm⟩: ∃m,m=acc[i]:=⟨_,rfl⟩
      have HM:Hid (acc=acc.take i++m::acc.drop (i+1)):=by
       show _=_
       have e:=(List.take_append_drop i acc).symm
       rw[List.drop_eq_getElem_cons hil,←hm] at e
       exact e
      obtain⟨gp,ep,hgp,hcp⟩: ∃gp,pa=some ⟨gp,0,none⟩∧gp<wr.heap.size∧wr.cell? ⟨gp,i,none⟩=some (.int .i64 m.point):=by
       rcases HJ.out.points.form with ⟨_,e⟩ | ⟨g,cap,e,_,hlt,_,hc,_⟩
       ·rw[List.map_eq_nil_iff] at e;rw[e] at hil;simp at hil
       ·refine⟨g,(Value.slice.inj e).1,hlt,?_⟩
        rw[hc i (by simpa using hil)]
        simp[List.getElem?_eq_getElem hil,hm]
      obtain⟨ga,ea,hga,hca⟩: ∃ga,aa=some ⟨ga,0,none⟩∧ga<wr.heap.size∧wr.cell? ⟨ga,i,none⟩=some (.int .i64 m.line):=by
       rcases HJ.out.ats.form with ⟨_,e⟩ | ⟨g,cap,e,_,hlt,_,hc,_⟩
       ·rw[List.map_eq_nil_iff] at e;rw[e] at hil;simp at hil
       ·refine⟨g,(Value.slice.inj e).1,hlt,?_⟩
        rw[hc i (by simpa using hil)]
        simp[List.getElem?_eq_getElem hil,hm]
      subst ep ea
      have hxb:wr.cell? ⟨w.heap.size+1,0,none⟩=some (.slice ma acc.length mc):=HJ.out.box.cell 0
      have hxl:=HJ.out.box.lt
      have s0:(wr.drew.cell? ⟨w.heap.size+1,0,none⟩=some (.slice ma acc.length mc)∧wr.drew.cell? ⟨gp,i,none⟩=some (.int .i64 m.point))∧Below wr.heap.size wr wr.drew:=⟨⟨hxb,hcp⟩,(Below.refl _ _).drew⟩
      have HKK:Hid (∀x y:World,((x.cell? ⟨w.heap.size+1,0,none⟩=some (.slice ma acc.length mc)∧x.cell? ⟨gp,i,none⟩=some (.int .i64 m.point))∧Below wr.heap.size wr x)→Below wr.heap.size x y→((y.cell? ⟨w.heap.size+1,0,none⟩=some (.slice ma acc.length mc)∧y.cell? ⟨gp,i,none⟩=some (.int .i64 m.point))∧Below wr.heap.size wr y)):=fun x y h1 h2=>
       ⟨⟨(h2.cell (p:=⟨w.heap.size+1,0,none⟩) hxl).trans h1.1.1,(h2.cell (p:=⟨gp,i,none⟩) hgp).trans h1.1.2⟩,h1.2.trans h2⟩
      have HCC:Hid (∀x:World,((x.cell? ⟨w.heap.size+1,0,none⟩=some (.slice ma acc.length mc)∧x.cell? ⟨gp,i,none⟩=some (.int .i64 m.point))∧Below wr.heap.size wr x)→Calls Tryz.prog 97 #[.agg #[.slice ma acc.length mc],.int .i64 m.point] x fun e w'=>(∃b,e=.returned (.bool b)∧(b=true↔Lead (aab acc) m.point m.point))∧Below x.heap.size x w'):=fun x hx=>HBACK.out m.point x (HJ.out.go hx.2).min
      clear hcp hxb hm hxl
      go_upto_region 27 with fail
      go_cut [103] from 92 to 108 (fun v wx=> ∃b,v=.bool b∧Hid (b=true↔Lead (aab acc) m.point m.point)∧Aside (Below wr.heap.size wr wx))
      case first=>
       go_region_held (fun x=>(x.cell? ⟨w.heap.size+1,0,none⟩=some (.slice ma acc.length mc)∧x.cell? ⟨gp,i,none⟩=some (.int .i64 m.point))∧Below wr.heap.size wr x) (first | exact s0 | assumption | exact HKK.out _ _ (by assumption) (ady (by assumption) (by assumption))) ((go_at_call 97;refine(HCC.out _ (by assumption)).mono ?_;rintro e w3 ⟨⟨b,rfl,hbl⟩,hb3⟩))
       all_goals go_wp2_with fail
       all_goals go_meet
       case rel=>exact⟨b,rfl,hbl,And.right (by assumption)⟩
      case rest=>
       obtain⟨b,rfl,HBL,HBW⟩:=hcut
       have HJ2:Aside (LJ w (.slice al kl cl) C (acc.map Mk.point) (acc.map Mk.line) (aag acc) (.slice (some ⟨gp,0,none⟩) acc.length pc) (.slice (some ⟨ga,0,none⟩) acc.length ac) (.slice ma acc.length mc) ps wc):=HJ.out.go HBW.out
       have hca2:wc.cell? ⟨ga,i,none⟩=some (.int .i64 m.line):=(HBW.out.cell (p:=⟨ga,i,none⟩) hga).trans hca
       clear s0 HKK HCC hca HJ
       cases b with
       | true=>
        have hfin:aaw s.data.toList=.error (42,m.line):=azx HLEN.out HLL.out HM.out HNO.out (HBL.out.1 rfl)
        have HF:Hid (aaw s.data.toList=.error (42,m.line)):=hfin
        have r0:wc.cell? ⟨w.heap.size,0,none⟩=some (.slice none 0 0):=HJ2.out.res.cell 0
        have rz:=HJ2.out.res.frozen 0
        have hgne:ga≠w.heap.size:=by
         intro e
         obtain⟨_,c,f,q⟩:=aan HJ2.out.ats (j:=ga) rfl
         rw[e] at q
         have:=q.symm.trans HJ2.out.res
         simp only[Option.some.injEq,Obj.cells.injEq] at this
         exact absurd this.2.1 (by decide)
        have hca3:(wc.setCell ⟨w.heap.size,0,none⟩ (.slice none 0 0)).cell? ⟨ga,i,none⟩=some (.int .i64 m.line):=(World.cell?_setCell_other _ _ _ _ (by intro e;simp only[Addr.mk.injEq] at e;exact hgne e.1.symm)).trans hca2
        clear hfin
        go_wp2_with fail
        go_region
        go_wp2_with fail
        refine bodyPost_ret (abk (HJ2.out.res.set 0 (.slice none 0 0)) rfl rfl rfl) rfl ?_
        refine⟨(HJ2.out.below.setCell (p:=⟨w.heap.size,0,none⟩) (Nat.le_refl _) _).drew,?_⟩
        rw[HF.out]
        exact rfl
       | false=>
        have HNO2:Hid (∀x∈acc.take (i+1),¬Lead (aab acc) x.point x.point):=fun x hx=>by
         rw[show acc.take (i+1)=acc.take i++[m] by
          have hl:(acc.take i).length=i:=by rw[List.length_take];omega
          conv=>lhs;rw[HM.out]
          rw[List.take_append,hl,List.take_of_length_le (by omega)];simp] at hx
         rcases List.mem_append.1 hx with hx | hx
         ·exact HNO.out x hx
         ·rw[List.mem_singleton] at hx
          subst hx
          exact fun h=>by have:=HBL.out.2 h;cases this
        clear HBL HNO
        go_wp2
        go_roundg (acc.length-(i+1))
        case measure=>omega
        case rel=>exact⟨i+1,by first | rfl | go_num,by omega,Nat.le_refl _,HJ2,HNO2⟩
     ·have hilz: ¬(i:Int)<(acc.length:Int):=by omega
      have hnoA: ∀x∈acc,¬Lead (aab acc) x.point x.point:=fun x hx=>HNO.out x (by rw[List.take_of_length_le (by omega)];exact hx)
      obtain⟨kd,hdep,hdeep,hgood⟩:=az0 HLEN.out HLL.out hnoA
      have HDEP:Aside _:=hdep
      have HDEEP:Aside _:=hdeep
      have HGOOD:Aside _:=hgood
      have HSH0:Hid (∀x∈acc.take 0,(wh (aab acc) kd x.point).length≤18):=fun x hx=>by simp at hx
      clear hnoA hdep hdeep hgood HNO HBACK
      go_wp2_with fail
      go_loopg [16] acc.length (fun g3 v wr=> ∃(i:Nat),v=.int .i64 i∧i≤acc.length∧acc.length-i≤g3∧Aside (LJ w (.slice al kl cl) C (acc.map Mk.point) (acc.map Mk.line) (aag acc) (.slice pa acc.length pc) (.slice aa acc.length ac) (.slice ma acc.length mc) ps wr)∧Hid (∀x∈acc.take i,(wh (aab acc) kd x.point).length≤18))
      case atStart=>exact⟨0,rfl,Nat.zero_le _,by omega,HJ,HSH0⟩
      case round=>
       clear HJ HSH0
       obtain⟨i,rfl,hi,hg3,HJ,HSH⟩:=hrel
       by_cases hil:i<acc.length
       ·have hilz:(i:Int)<(acc.length:Int):=by omega
        obtain⟨m,hm⟩: ∃m,m=acc[i]:=⟨_,rfl⟩
        have HM:Hid (acc=acc.take i++m::acc.drop (i+1)):=by
         show _=_
         have e:=(List.take_append_drop i acc).symm
         rw[List.drop_eq_getElem_cons hil,←hm] at e
         exact e
        have hmem:m∈acc:=by rw[hm];exact List.getElem_mem hil
        obtain⟨gp,ep,hgp,hcp⟩: ∃gp,pa=some ⟨gp,0,none⟩∧gp<wr.heap.size∧wr.cell? ⟨gp,i,none⟩=some (.int .i64 m.point):=by
         rcases HJ.out.points.form with ⟨_,e⟩ | ⟨g,cap,e,_,hlt,_,hc,_⟩
         ·rw[List.map_eq_nil_iff] at e;rw[e] at hil;simp at hil
         ·refine⟨g,(Value.slice.inj e).1,hlt,?_⟩
          rw[hc i (by simpa using hil)]
          simp[List.getElem?_eq_getElem hil,hm]
        obtain⟨ga,ea,hga,hca⟩: ∃ga,aa=some ⟨ga,0,none⟩∧ga<wr.heap.size∧wr.cell? ⟨ga,i,none⟩=some (.int .i64 m.line):=by
         rcases HJ.out.ats.form with ⟨_,e⟩ | ⟨g,cap,e,_,hlt,_,hc,_⟩
         ·rw[List.map_eq_nil_iff] at e;rw[e] at hil;simp at hil
         ·refine⟨g,(Value.slice.inj e).1,hlt,?_⟩
          rw[hc i (by simpa using hil)]
          simp[List.getElem?_eq_getElem hil,hm]
        subst ep ea
        have hxb:wr.cell? ⟨w.heap.size+1,0,none⟩=some (.slice ma acc.length mc):=HJ.out.box.cell 0
        have hxl:=HJ.out.box.lt
        have s0:(wr.drew.cell? ⟨w.heap.size+1,0,none⟩=some (.slice ma acc.length mc)∧wr.drew.cell? ⟨gp,i,none⟩=some (.int .i64 m.point))∧Below wr.heap.size wr wr.drew:=⟨⟨hxb,hcp⟩,(Below.refl _ _).drew⟩
        have HKK:Hid (∀x y:World,((x.cell? ⟨w.heap.size+1,0,none⟩=some (.slice ma acc.length mc)∧x.cell? ⟨gp,i,none⟩=some (.int .i64 m.point))∧Below wr.heap.size wr x)→Below wr.heap.size x y→((y.cell? ⟨w.heap.size+1,0,none⟩=some (.slice ma acc.length mc)∧y.cell? ⟨gp,i,none⟩=some (.int .i64 m.point))∧Below wr.heap.size wr y)):=fun x y h1 h2=>
         ⟨⟨(h2.cell (p:=⟨w.heap.size+1,0,none⟩) hxl).trans h1.1.1,(h2.cell (p:=⟨gp,i,none⟩) hgp).trans h1.1.2⟩,h1.2.trans h2⟩
        have HCC:Hid (∀x:World,((x.cell? ⟨w.heap.size+1,0,none⟩=some (.slice ma acc.length mc)∧x.cell? ⟨gp,i,none⟩=some (.int .i64 m.point))∧Below wr.heap.size wr x)→Calls Tryz.prog 98 #[.agg #[.slice ma acc.length mc],.slice none 0 0,.int .i64 m.point,.int .i64 18] x fun e w'=> ∃a n c,e=.returned (.slice a n c)∧Hid (n≤19∧(18<n↔18<(wh (aab acc) kd m.point).length))∧Below x.heap.size x w'):=fun x hx=>HWHO.out kd m.point (as5 HLEN.out HLL.out hmem) (HDEP.out m.point) x (HJ.out.go hx.2).min
        clear hcp hxb hm hxl hmem
        go_upto_region 32 with fail
        go_cut [122] from 109 to 127 (fun v wx=> ∃n:Nat,v=.bool (decide ((18:Int)<(n:Int)))∧Hid (n≤19∧(18<n↔18<(wh (aab acc) kd m.point).length))∧Aside (Below wr.heap.size wr wx))
        case first=>
         go_region_held (fun x=>(x.cell? ⟨w.heap.size+1,0,none⟩=some (.slice ma acc.length mc)∧x.cell? ⟨gp,i,none⟩=some (.int .i64 m.point))∧Below wr.heap.size wr x) (first | exact s0 | assumption | exact HKK.out _ _ (by assumption) (ady (by assumption) (by assumption))) ((go_at_call 98;refine(HCC.out _ (by assumption)).mono ?_;rintro e w3 ⟨a3,n3,c3,rfl,hn3,hb3⟩))
         all_goals go_wp2_with fail
         all_goals go_meet
         case rel=>exact⟨n3,rfl,hn3,And.right (by assumption)⟩
        case rest=>
         obtain⟨n3,rfl,HN3,HBW⟩:=hcut
         have HJ2:Aside (LJ w (.slice al kl cl) C (acc.map Mk.point) (acc.map Mk.line) (aag acc) (.slice (some ⟨gp,0,none⟩) acc.length pc) (.slice (some ⟨ga,0,none⟩) acc.length ac) (.slice ma acc.length mc) ps wc):=HJ.out.go HBW.out
         have hca2:wc.cell? ⟨ga,i,none⟩=some (.int .i64 m.line):=(HBW.out.cell (p:=⟨ga,i,none⟩) hga).trans hca
         clear s0 HKK HCC hca HJ
         by_cases h18:18<n3
         ·have h18z:(18:Int)<(n3:Int):=by omega
          have hfin:aaw s.data.toList=.error (43,m.line):=HDEEP.out _ m _ HM.out HSH.out (HN3.out.2.1 h18)
          have HF:Hid (aaw s.data.toList=.error (43,m.line)):=hfin
          have r0:wc.cell? ⟨w.heap.size,0,none⟩=some (.slice none 0 0):=HJ2.out.res.cell 0
          have rz:=HJ2.out.res.frozen 0
          have hgne:ga≠w.heap.size:=by
           intro e
           obtain⟨_,c,f,q⟩:=aan HJ2.out.ats (j:=ga) rfl
           rw[e] at q
           have:=q.symm.trans HJ2.out.res
           simp only[Option.some.injEq,Obj.cells.injEq] at this
           exact absurd this.2.1 (by decide)
          have hca3:(wc.setCell ⟨w.heap.size,0,none⟩ (.slice none 0 0)).cell? ⟨ga,i,none⟩=some (.int .i64 m.line):=(World.cell?_setCell_other _ _ _ _ (by intro e;simp only[Addr.mk.injEq] at e;exact hgne e.1.symm)).trans hca2
          clear hfin
          go_wp2_with fail
          go_region
          go_wp2_with fail
          refine bodyPost_ret (abk (HJ2.out.res.set 0 (.slice none 0 0)) rfl rfl rfl) rfl ?_
          refine⟨(HJ2.out.below.setCell (p:=⟨w.heap.size,0,none⟩) (Nat.le_refl _) _).drew,?_⟩
          rw[HF.out]
          exact rfl
         ·have h18z: ¬(18:Int)<(n3:Int):=by omega
          have HSH2:Hid (∀x∈acc.take (i+1),(wh (aab acc) kd x.point).length≤18):=fun x hx=>by
           rw[show acc.take (i+1)=acc.take i++[m] by
            have hl:(acc.take i).length=i:=by rw[List.length_take];omega
            conv=>lhs;rw[HM.out]
            rw[List.take_append,hl,List.take_of_length_le (by omega)];simp] at hx
           rcases List.mem_append.1 hx with hx | hx
           ·exact HSH.out x hx
           ·rw[List.mem_singleton] at hx
            subst hx
            have:=HN3.out.2
            omega
          clear HN3 HSH
          go_wp2
          go_roundg (acc.length-(i+1))
          case measure=>omega
          case rel=>exact⟨i+1,by first | rfl | go_num,by omega,Nat.le_refl _,HJ2,HSH2⟩
       ·have hilz: ¬(i:Int)<(acc.length:Int):=by omega
        obtain⟨E,hE,_⟩:=HGOOD.out (fun x hx=>HSH.out x (by rw[List.take_of_length_le (by omega)];exact hx))
        have HF:Hid (aaw s.data.toList=.ok (acc,E)):=hE
        have r0:wr.cell? ⟨w.heap.size,0,none⟩=some (.slice none 0 0):=HJ.out.res.cell 0
        have rz:=HJ.out.res.frozen 0
        have hxb:wr.cell? ⟨w.heap.size+1,0,none⟩=some (.slice ma acc.length mc):=HJ.out.box.cell 0
        clear hE HSH HGOOD HDEEP HDEP
        go_wp2_with fail
        refine bodyPost_ret (abk (HJ.out.res.set 0 (.slice ma acc.length mc)) rfl rfl rfl) rfl ?_
        refine⟨HJ.out.below.setCell (p:=⟨w.heap.size,0,none⟩) (Nat.le_refl _) _,?_⟩
        rw[HF.out]
        exact⟨_,_,_,rfl,HJ.out.fin _⟩
end Go.Proofs.YtfhpgmlfgjfknaaGreatDoor
