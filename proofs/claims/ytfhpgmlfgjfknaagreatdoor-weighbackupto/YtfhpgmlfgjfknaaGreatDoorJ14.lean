/- Contracts and lemmas (nothing is claimed here). -/
import Derived.Test.YtfhpgmlfgjfknaaGreatDoorJ13
namespace Go.Proofs.YtfhpgmlfgjfknaaGreatDoor
open Go.RowKit Go.Vf Go.Maps
theorem a4r (c:UInt8)(l:List UInt8):(Lib.cut l [c]).1=(aih c l).1∧(Lib.cut l [c]).2.1=(aih c l).2:=by
 have hge:=Lib.index_ge l [c]
 by_cases hm:Lib.index l [c]= -1
 ·unfold Lib.cut
  rw[if_neg (by omega),axx c l (anv c l hm)]
  exact⟨rfl,rfl⟩
 ·obtain⟨i,hi⟩: ∃i:Nat,Lib.index l [c]=i:=⟨(Lib.index l [c]).toNat,by omega⟩
  obtain⟨h1,h2,h3⟩:=anu c l i hi
  unfold Lib.cut
  rw[if_pos (by omega),hi]
  have e:aih c l=(l.take i,l.drop (i+1)):=by
   conv=>lhs;rw[h3]
   exact aj1 c _ _ h2
  rw[e]
  simp
theorem ahe (w:World)(n:Nat):Below w.heap.size w (w.drewN n):=⟨rfl,rfl,rfl,Nat.le_refl _,fun _ _=>rfl⟩
theorem a6t (s:ByteArray)(m:Int)(w:World)(hs:s.size≤65536)(hm:w.cell? ⟨2,0,none⟩=some (.int .i64 m)):
  Calls Tryz.prog 134 #[.string s,.string ⟨#[59]⟩] w fun e w'=> ∃b,e=.returned (.tuple #[.string (bsz (aih 59 s.data.toList).1),.string (bsz (aih 59 s.data.toList).2),.bool b])∧Below w.heap.size w w':=by
 refine(Tryz.strings_Cut s ⟨#[59]⟩ m w (by omega) hm).mono ?_
 rintro e w' ⟨rfl,n,rfl⟩
 have h:=a4r 59 s.data.toList
 rw[show (⟨#[59]⟩:ByteArray).data.toList=[59] from rfl]
 refine⟨_,by rw[h.1,h.2],?_⟩
 exact ahe _ n
def ab8:List (List UInt8)→Option (List Int)
 | []=>some []
 | s::r=>match af6 s with
  | none=>none
  | some x=>match ab8 r with
   | none=>none
   | some l=>some (x::l)
def el3 (va:Bool):Option (List Int)→Option El
 | some [x,y,z]=>some ⟨va,x,y,z⟩
 | _=>none
theorem arj (va:Bool)(C:List (List UInt8))(h:C.length=3):ae7 va C=el3 va (ab8 C):=by
 match C,h with
 | [a,b,c],_=>
  unfold ae7
  simp only[ab8]
  cases af6 a with
  | none=>rfl
  | some x=>cases af6 b with
   | none=>rfl
   | some y=>cases af6 c with
    | none=>rfl
    | some z=>rfl
theorem an4 (va:Bool)(C:List (List UInt8))(h:C.length≠3):ae7 va C=none:=by
 unfold ae7
 split
 ·simp at h
 ·rfl
def a81:Option El→Value
 | some e=>.tuple #[elA e,.bool true]
 | none=>.tuple #[elA ⟨false,0,0,0⟩,.bool false]
theorem Blk.c4 {w:World}{b:Nat}{t:TypeId}{a0 a1 a2 a3:Value}(h:Blk w b t #[a0,a1,a2,a3]):(w.cell? ⟨b,0,none⟩=some a0∧w.cell? ⟨b,1,none⟩=some a1∧w.cell? ⟨b,2,none⟩=some a2∧w.cell? ⟨b,3,none⟩=some a3)∧w.frozen? ⟨b,0,none⟩=false∧w.frozen? ⟨b,1,none⟩=false∧w.frozen? ⟨b,2,none⟩=false∧w.frozen? ⟨b,3,none⟩=false:=
 ⟨⟨h.cell 0,h.cell 1,h.cell 2,h.cell 3⟩,h.frozen 0,h.frozen 1,h.frozen 2,h.frozen 3⟩
theorem a9e (x0 x1 x2 x3 a0 a1 a2 a3:Value):(((((#[x0,x1,x2,x3]:Array Value).setIfInBounds 0 a0).setIfInBounds 1 a1).setIfInBounds 2 a2).setIfInBounds 3 a3)= #[a0,a1,a2,a3]:=by
 simp only[List.setIfInBounds_toArray,List.set]
theorem Blk.set4 {w:World}{b:Nat}{t:TypeId}{x0 x1 x2 x3:Value}(h:Blk w b t #[x0,x1,x2,x3])(a0 a1 a2 a3:Value):
  Blk ((((w.setCell ⟨b,0,none⟩ a0).setCell ⟨b,1,none⟩ a1).setCell ⟨b,2,none⟩ a2).setCell ⟨b,3,none⟩ a3) b t #[a0,a1,a2,a3]:=by
 have:=(((h.set 0 a0).set 1 a1).set 2 a2).set 3 a3
 rw[a9e] at this
 exact this
theorem aet {B b:Nat}{w W:World}(h:Below B w W)(hB:B≤b)(a0 a1 a2 a3:Value):Below B w ((((W.setCell ⟨b,0,none⟩ a0).setCell ⟨b,1,none⟩ a1).setCell ⟨b,2,none⟩ a2).setCell ⟨b,3,none⟩ a3):=
 (((h.setCell (p:=⟨b,0,none⟩) hB _).setCell (p:=⟨b,1,none⟩) hB _).setCell (p:=⟨b,2,none⟩) hB _).setCell (p:=⟨b,3,none⟩) hB _
theorem aa0 {tmps:Array Value}{w:World}{b:Nat}{a0 a1 a2 a3 v:Value}(h:Blk w b 131 #[a0,a1,a2,a3])(t2:tmps[2]?.getD undef=.pointer (some ⟨b,0,none⟩))(t3:tmps[3]?.getD undef=v):
  (results Tryz.f171 tmps).run Tryz.prog w=.ok (.tuple #[.agg #[a0,a1,a2,a3],v]) w:=by
 obtain⟨⟨c0,c1,c2,c3⟩,_⟩:=h.c4
 simp[results,Tryz.results171,go_sem,t2,t3,c0,c1,c2,c3]
theorem a0t (s:ByteArray)(k:Nat)(hk:k<s.size):s.data.toList[k]? =some s[k]:=by
 rw[List.getElem?_eq_getElem (by rw[←Lib.size_eq];exact hk)]
 try rfl
theorem aha (s:ByteArray)(a b:Nat):(s.extract a b).data.toList=(s.data.toList.drop a).take (b-a):=by
 rw[ByteArray.data_extract,Array.toList_extract,List.extract_eq_take_drop]
theorem ahq {a b:UInt8}(h:a=b):((a.toNat:Int) !=(b.toNat:Int))=false:=by subst h;simp
theorem ahp {a b:UInt8}(h:a≠b):((a.toNat:Int) !=(b.toNat:Int))=true:=by
 rw[bne_iff_ne]
 intro e
 exact h (UInt8.toNat_inj.1 (by omega))
set_option maxHeartbeats 2000000 in
set_option maxRecDepth 20000 in
theorem alf (s:ByteArray)(m:Int)(w:World)(hs:s.size=17)(hm:w.cell? ⟨2,0,none⟩=some (.int .i64 m)):
  Calls Tryz.prog 171 #[.string s] w fun e w'=>e=.returned (a81 (elR s.data.toList))∧Below w.heap.size w w':=by
 have hlt0:2<w.heap.size:=World.block_lt_of_cell? w _ hm
 have hB0:=Blk.new w 131 #[.bool false,.int .i64 0,.int .i64 0,.int .i64 0]
 have hbel:=(Below.refl w.heap.size w).alloc (Nat.le_refl _) (.cells #[.bool false,.int .i64 0,.int .i64 0,.int .i64 0] 131)
 have g0:=a0t s 0 (by omega)
 have g1:=a0t s 1 (by omega)
 have g16:=a0t s 16 (by omega)
 have hno: ¬(s[0]'(by omega)=91∧(s[1]'(by omega)=46∨s[1]'(by omega)=42)∧s[16]'(by omega)=93)→elR s.data.toList=none:=fun h=>by
  unfold elR
  rw[if_neg]
  rw[g0,g1,g16]
  simpa using h
 by_cases h0:s[0]'(by omega)=91
 ·have b0:(((s[0]'(by omega)).toNat:Int) !=91)=false:=ahq (b:=91) h0
  by_cases h1:s[1]'(by omega)=46∨s[1]'(by omega)=42
  ·by_cases h16:s[16]'(by omega)=93
   ·have b16:(((s[16]'(by omega)).toNat:Int) !=93)=false:=ahq (b:=93) h16
    rcases h1 with h1 | h1
    ·have b1:(((s[1]'(by omega)).toNat:Int) !=46)=false:=ahq (b:=46) h1
     have b2:(((s[1]'(by omega)).toNat:Int)==42)=false:=a1t (b:=42) (by rw[h1];decide)
     have hER:elR s.data.toList=ae7 false (aa3 46 ((s.data.toList.drop 2).take 14)):=by
      unfold elR
      rw[g0,g1,g16,if_pos ⟨by rw[h0],by rw[h1];simp,by rw[h16]⟩]
      rw[h1];rfl
     have hel:(s.extract 2 16).data.toList=(s.data.toList.drop 2).take 14:=aha s 2 16
     have hes:(s.extract 2 16).size=14:=by rw[ByteArray.size_extract,hs];rfl
     rw[←hel] at hER
     generalize elR s.data.toList=R at hER⊢
     have HER:Hid (R=ae7 false (aa3 46 (s.extract 2 16).data.toList)):=hER
     clear hER hel hno g0 g1 g16 h0 h1 h16
     have hcs:=abj 46 (s.extract 2 16).data.toList
     have hcl:=abl 46 (s.extract 2 16).data.toList
     rw[←Lib.size_eq,hes] at hcs hcl
     have hsp:=fun(W:World)=>ad3 46 (s.extract 2 16) m W (by omega)
     generalize hC:aa3 46 (s.extract 2 16).data.toList=C at hcs hcl hsp HER
     clear hC
     have hm1:=(hbel.cell (p:=⟨2,0,none⟩) hlt0).trans hm
     clear hes
     go_enter Tryz.func171,Tryz.ntmps171
     go_upto_region 4 with fail
     generalize hW:(w.alloc (.cells #[.bool false,.int .i64 0,.int .i64 0,.int .i64 0] 131))=W at hB0 hbel hm1⊢
     have hwW:w.heap.size<W.heap.size:=hB0.lt
     clear hW
     go_wp2_with fail
     refine(hsp W hm1).mono ?_
     rintro _ w1 ⟨rfl,hst,hb1,hsz1⟩
     have hbw1:Below w.heap.size w w1:=hbel.trans (hb1.mono (by omega))
     have hB1:Blk w1 w.heap.size 131 #[.bool false,.int .i64 0,.int .i64 0,.int .i64 0]:=hB0.below hb1 hwW
     have hW1:W.heap.size<w1.heap.size:=by omega
     clear hsz1 hB0 hbel hb1
     by_cases h3:C.length=3
     ·have b3:((C.length:Int) !=3)=false:=by rw[h3];rfl
      have hRL:Hid (R=el3 false (ab8 C)):=by show _=_;rw[HER.out,arj _ _ h3]
      have H3:Hid (C.length=3):=h3
      have hl3:C.length≤3:=by omega
      have hlo:(C.length:Int)≤3:=by omega
      clear h3 HER hlo
      have hBw:=Blk.new w1 260 #[.int .i64 0,.int .i64 0,.int .i64 0]
      have hb2:=hbw1.alloc (by omega) (.cells #[.int .i64 0,.int .i64 0,.int .i64 0] 260)
      have hB2:Blk (w1.alloc (.cells #[.int .i64 0,.int .i64 0,.int .i64 0] 260)) w.heap.size 131 #[.bool false,.int .i64 0,.int .i64 0,.int .i64 0]:=(Below.heap_alloc _ _ _ (by omega)).trans hB1
      have hst2:Strs (w1.alloc (.cells #[.int .i64 0,.int .i64 0,.int .i64 0] 260)) W.heap.size C:=(Below.heap_alloc _ _ _ (by omega)).trans hst
      go_upto_region 8 with fail
      generalize hW2:(w1.alloc (.cells #[.int .i64 0,.int .i64 0,.int .i64 0] 260))=W2 at hBw hb2 hB2 hst2⊢
      clear hW2 hst hB1 hbw1
      go_wp2_with fail
      go_loopw [44] (fun i wr=> ∃(k:Nat) (acc:List Int),k≤C.length∧i=.int .i64 k∧acc.length=k∧Blk wr w1.heap.size 260 (rc (acc++List.replicate (3-k) 0))∧Blk wr w.heap.size 131 #[.bool false,.int .i64 0,.int .i64 0,.int .i64 0]∧Strs wr W.heap.size C∧Hid (R=el3 false ((ab8 (C.drop k)).map (acc++ ·)))∧Below w.heap.size w wr) (fun i _=>C.length-(intOf i).toNat)
      case atStart=>exact⟨0,[],by omega,rfl,rfl,hBw,hB2,hst2,by show _=_;rw[hRL.out];simp,hb2⟩
      case round=>
       clear hBw hB2 hst2 hRL hb2
       obtain⟨k,acc,hk,rfl,hal,hBw,hB2,hst,HK,hbel⟩:=hrel
       by_cases hlt:k<C.length
       ·have hck:=hst.cell hlt
        have hkl:=hcs C[k] (List.getElem_mem hlt)
        have hd:C.drop k=C[k]::C.drop (k+1):=List.drop_eq_getElem_cons hlt
        have hrh:=fun w=>ag4 (bsz C[k]) w (by simp[ByteArray.size];omega)
        rw[show (bsz C[k]).data.toList=C[k] by simp] at hrh
        have hk3:k<3:=by omega
        have hsk:(bsz C[k]).size=C[k].length:=by simp[ByteArray.size]
        have hfr:af6 C[k]=match at5 C[k] with
         | none=>none
         | some n=>if C[k].length=4 then some (n:Int) else none:=rfl
        have HK1:Hid (R=el3 false ((ab8 (C[k]::C.drop (k+1))).map (acc++ ·))):=by show _=_;rw[←hd];exact HK.out
        clear hd HK hkl
        generalize bsz C[k]=t at hck hrh hsk
        generalize C[k]=c at hrh hsk hfr HK1
        have cz: ∃u,wr.cell? ⟨w1.heap.size,k,none⟩=some u:=⟨_,by rw[hBw.cell,aql _ _ (by simp;omega)]⟩
        obtain⟨u0,cz⟩:=cz
        have fz:=hBw.frozen k
        have hz4:=hB2.set4 (.bool false) (.int .i64 0) (.int .i64 0) (.int .i64 0)
        have hzb:=aet hbel (Nat.le_refl w.heap.size) (.bool false) (.int .i64 0) (.int .i64 0) (.int .i64 0)
        obtain⟨⟨d0,d1,d2,d3⟩,e0,e1,e2,e3⟩:=hB2.c4
        cases hx:at5 c with
        | none=>
         rw[hx] at hrh hfr
         have hRn:Hid (R=none):=by show _=_;rw[HK1.out,ab8,hfr];rfl
         clear hfr HK1 hx hsk
         simp only[a0s] at hrh
         go_wp2_with fail
         refine(hrh _).mono ?_
         rintro _ w3 ⟨rfl,rfl⟩
         go_wp2_with fail
         refine bodyPost_ret (aa0 hz4 rfl rfl) rfl ?_
         exact⟨by rw[hRn.out];rfl,hzb⟩
        | some n=>
         rw[hx] at hrh hfr
         simp only[a0s] at hrh
         simp only at hfr
         by_cases h4:t.size=4
         ·rw[if_pos (by omega)] at hfr
          have HK2:Hid (R=el3 false ((ab8 (C.drop (k+1))).map ((acc++[(n:Int)])++ ·))):=by
           show _=_
           rw[HK1.out,ab8,hfr]
           cases ab8 (C.drop (k+1))<;>simp
          have b4:((t.size:Int) !=4)=false:=by rw[h4];rfl
          have hset:(acc++List.replicate (3-k) 0).set k (n:Int)=(acc++[(n:Int)])++List.replicate (3-(k+1)) 0:=by
           rw[List.set_append_right _ _ (by omega),hal,Nat.sub_self,show 3-k=(3-(k+1))+1 by omega,List.replicate_succ,List.set_cons_zero,List.append_assoc]
           try rfl
          have hBw':=hBw.set k (.int .i64 (n:Int))
          rw[au8,hset] at hBw'
          have hne:w.heap.size≠w1.heap.size:=by omega
          have hB2':=hB2.other (p:=⟨w1.heap.size,k,none⟩) hne (.int .i64 (n:Int))
          have hst':Strs (wr.setCell ⟨w1.heap.size,k,none⟩ (.int .i64 (n:Int))) W.heap.size C:=(Below.heap_setCell wr ⟨w1.heap.size,k,none⟩ _ W.heap.size (by show W.heap.size≠w1.heap.size;omega)).trans hst
          have hb':=hbel.setCell (p:=⟨w1.heap.size,k,none⟩) (by show w.heap.size≤w1.heap.size;omega) (.int .i64 (n:Int))
          clear hfr HK1 hx hsk h4 hset hz4 hzb hBw hB2 hst hbel
          go_wp2_with fail
          refine(hrh _).mono ?_
          rintro _ w3 ⟨rfl,rfl⟩
          go_wp2_with fail
          go_roundw
          case rel=>exact⟨k+1,acc++[(n:Int)],by omega,by simp,by simp[hal],hBw',hB2',hst',HK2,hb'⟩
          case measure=>simp only[intOf];omega
         ·rw[if_neg (by omega)] at hfr
          have hRn:Hid (R=none):=by show _=_;rw[HK1.out,ab8,hfr];rfl
          have b4:((t.size:Int) !=4)=true:=by rw[bne_iff_ne];omega
          clear hfr HK1 hx hsk h4
          go_wp2_with fail
          refine(hrh _).mono ?_
          rintro _ w3 ⟨rfl,rfl⟩
          go_wp2_with fail
          refine bodyPost_ret (aa0 hz4 rfl rfl) rfl ?_
          exact⟨by rw[hRn.out];rfl,hzb⟩
       ·have hk3:k=3:=by have:=H3.out;omega
        have ha3:acc.length=3:=by omega
        obtain⟨x,y,z,rfl⟩: ∃x y z,acc=[x,y,z]:=by
         match acc,ha3 with
         | [x,y,z],_=>exact⟨x,y,z,rfl⟩
        have hBw':Blk wr w1.heap.size 260 #[.int .i64 x,.int .i64 y,.int .i64 z]:=by
         rw[hk3] at hBw
         exact hBw
        have hRs:Hid (R=some ⟨false,x,y,z⟩):=by show _=_;rw[HK.out,List.drop_of_length_le (by omega)];rfl
        have q0:wr.cell? ⟨w1.heap.size,0,none⟩=some (.int .i64 x):=hBw'.cell 0
        have q1:wr.cell? ⟨w1.heap.size,1,none⟩=some (.int .i64 y):=hBw'.cell 1
        have q2:wr.cell? ⟨w1.heap.size,2,none⟩=some (.int .i64 z):=hBw'.cell 2
        have hne:w.heap.size≠w1.heap.size:=by omega
        have hne': ¬w1.heap.size=w.heap.size:=by omega
        have hz4:=hB2.set4 (.bool false) (.int .i64 x) (.int .i64 y) (.int .i64 z)
        have hzb:=aet hbel (Nat.le_refl w.heap.size) (.bool false) (.int .i64 x) (.int .i64 y) (.int .i64 z)
        obtain⟨⟨d0,d1,d2,d3⟩,e0,e1,e2,e3⟩:=hB2.c4
        clear hBw hBw' HK hk3 ha3 hal hB2 hbel hst hcs hsp
        go_upto_region 16 with fail
        go_region
        go_wp2_with fail
        refine bodyPost_ret (aa0 (b:=w.heap.size) (show Blk _ _ _ _ from hz4) rfl rfl) rfl ?_
        exact⟨by rw[hRs.out];rfl,hzb.drew⟩
     ·have b3:((C.length:Int) !=3)=true:=by rw[bne_iff_ne];omega
      have hRn:R=none:=by rw[HER.out,an4 _ _ h3]
      have hz4:=hB1.set4 (.bool false) (.int .i64 0) (.int .i64 0) (.int .i64 0)
      have hzb:=aet hbw1 (Nat.le_refl w.heap.size) (.bool false) (.int .i64 0) (.int .i64 0) (.int .i64 0)
      obtain⟨⟨d0,d1,d2,d3⟩,e0,e1,e2,e3⟩:=hB1.c4
      have hl3:C.length≤65536:=by omega
      clear h3 HER hst
      go_wp2_with fail
      refine bodyPost_ret (aa0 hz4 rfl rfl) rfl ?_
      exact⟨by rw[hRn];rfl,hzb⟩
    ·have b1:(((s[1]'(by omega)).toNat:Int) !=46)=true:=ahp (b:=46) (by rw[h1];decide)
     have b3:(((s[1]'(by omega)).toNat:Int) !=42)=false:=ahq (b:=42) h1
     have b2:(((s[1]'(by omega)).toNat:Int)==42)=true:=a1u (b:=42) h1
     have hER:elR s.data.toList=ae7 true (aa3 46 ((s.data.toList.drop 2).take 14)):=by
      unfold elR
      rw[g0,g1,g16,if_pos ⟨by rw[h0],by rw[h1];simp,by rw[h16]⟩]
      rw[h1];rfl
     have hel:(s.extract 2 16).data.toList=(s.data.toList.drop 2).take 14:=aha s 2 16
     have hes:(s.extract 2 16).size=14:=by rw[ByteArray.size_extract,hs];rfl
     rw[←hel] at hER
     generalize elR s.data.toList=R at hER⊢
     have HER:Hid (R=ae7 true (aa3 46 (s.extract 2 16).data.toList)):=hER
     clear hER hel hno g0 g1 g16 h0 h1 h16
     have hcs:=abj 46 (s.extract 2 16).data.toList
     have hcl:=abl 46 (s.extract 2 16).data.toList
     rw[←Lib.size_eq,hes] at hcs hcl
     have hsp:=fun(W:World)=>ad3 46 (s.extract 2 16) m W (by omega)
     generalize hC:aa3 46 (s.extract 2 16).data.toList=C at hcs hcl hsp HER
     clear hC
     have hm1:=(hbel.cell (p:=⟨2,0,none⟩) hlt0).trans hm
     clear hes
     go_enter Tryz.func171,Tryz.ntmps171
     go_upto_region 4 with fail
     generalize hW:(w.alloc (.cells #[.bool false,.int .i64 0,.int .i64 0,.int .i64 0] 131))=W at hB0 hbel hm1⊢
     have hwW:w.heap.size<W.heap.size:=hB0.lt
     clear hW
     go_wp2_with fail
     refine(hsp W hm1).mono ?_
     rintro _ w1 ⟨rfl,hst,hb1,hsz1⟩
     have hbw1:Below w.heap.size w w1:=hbel.trans (hb1.mono (by omega))
     have hB1:Blk w1 w.heap.size 131 #[.bool false,.int .i64 0,.int .i64 0,.int .i64 0]:=hB0.below hb1 hwW
     have hW1:W.heap.size<w1.heap.size:=by omega
     clear hsz1 hB0 hbel hb1
     by_cases h3:C.length=3
     ·have b3:((C.length:Int) !=3)=false:=by rw[h3];rfl
      have hRL:Hid (R=el3 true (ab8 C)):=by show _=_;rw[HER.out,arj _ _ h3]
      have H3:Hid (C.length=3):=h3
      have hl3:C.length≤3:=by omega
      have hlo:(C.length:Int)≤3:=by omega
      clear h3 HER hlo
      have hBw:=Blk.new w1 260 #[.int .i64 0,.int .i64 0,.int .i64 0]
      have hb2:=hbw1.alloc (by omega) (.cells #[.int .i64 0,.int .i64 0,.int .i64 0] 260)
      have hB2:Blk (w1.alloc (.cells #[.int .i64 0,.int .i64 0,.int .i64 0] 260)) w.heap.size 131 #[.bool false,.int .i64 0,.int .i64 0,.int .i64 0]:=(Below.heap_alloc _ _ _ (by omega)).trans hB1
      have hst2:Strs (w1.alloc (.cells #[.int .i64 0,.int .i64 0,.int .i64 0] 260)) W.heap.size C:=(Below.heap_alloc _ _ _ (by omega)).trans hst
      go_upto_region 8 with fail
      generalize hW2:(w1.alloc (.cells #[.int .i64 0,.int .i64 0,.int .i64 0] 260))=W2 at hBw hb2 hB2 hst2⊢
      clear hW2 hst hB1 hbw1
      go_wp2_with fail
      go_loopw [44] (fun i wr=> ∃(k:Nat) (acc:List Int),k≤C.length∧i=.int .i64 k∧acc.length=k∧Blk wr w1.heap.size 260 (rc (acc++List.replicate (3-k) 0))∧Blk wr w.heap.size 131 #[.bool false,.int .i64 0,.int .i64 0,.int .i64 0]∧Strs wr W.heap.size C∧Hid (R=el3 true ((ab8 (C.drop k)).map (acc++ ·)))∧Below w.heap.size w wr) (fun i _=>C.length-(intOf i).toNat)
      case atStart=>exact⟨0,[],by omega,rfl,rfl,hBw,hB2,hst2,by show _=_;rw[hRL.out];simp,hb2⟩
      case round=>
       clear hBw hB2 hst2 hRL hb2
       obtain⟨k,acc,hk,rfl,hal,hBw,hB2,hst,HK,hbel⟩:=hrel
       by_cases hlt:k<C.length
       ·have hck:=hst.cell hlt
        have hkl:=hcs C[k] (List.getElem_mem hlt)
        have hd:C.drop k=C[k]::C.drop (k+1):=List.drop_eq_getElem_cons hlt
        have hrh:=fun w=>ag4 (bsz C[k]) w (by simp[ByteArray.size];omega)
        rw[show (bsz C[k]).data.toList=C[k] by simp] at hrh
        have hk3:k<3:=by omega
        have hsk:(bsz C[k]).size=C[k].length:=by simp[ByteArray.size]
        have hfr:af6 C[k]=match at5 C[k] with
         | none=>none
         | some n=>if C[k].length=4 then some (n:Int) else none:=rfl
        have HK1:Hid (R=el3 true ((ab8 (C[k]::C.drop (k+1))).map (acc++ ·))):=by show _=_;rw[←hd];exact HK.out
        clear hd HK hkl
        generalize bsz C[k]=t at hck hrh hsk
        generalize C[k]=c at hrh hsk hfr HK1
        have cz: ∃u,wr.cell? ⟨w1.heap.size,k,none⟩=some u:=⟨_,by rw[hBw.cell,aql _ _ (by simp;omega)]⟩
        obtain⟨u0,cz⟩:=cz
        have fz:=hBw.frozen k
        have hz4:=hB2.set4 (.bool false) (.int .i64 0) (.int .i64 0) (.int .i64 0)
        have hzb:=aet hbel (Nat.le_refl w.heap.size) (.bool false) (.int .i64 0) (.int .i64 0) (.int .i64 0)
        obtain⟨⟨d0,d1,d2,d3⟩,e0,e1,e2,e3⟩:=hB2.c4
        cases hx:at5 c with
        | none=>
         rw[hx] at hrh hfr
         have hRn:Hid (R=none):=by show _=_;rw[HK1.out,ab8,hfr];rfl
         clear hfr HK1 hx hsk
         simp only[a0s] at hrh
         go_wp2_with fail
         refine(hrh _).mono ?_
         rintro _ w3 ⟨rfl,rfl⟩
         go_wp2_with fail
         refine bodyPost_ret (aa0 hz4 rfl rfl) rfl ?_
         exact⟨by rw[hRn.out];rfl,hzb⟩
        | some n=>
         rw[hx] at hrh hfr
         simp only[a0s] at hrh
         simp only at hfr
         by_cases h4:t.size=4
         ·rw[if_pos (by omega)] at hfr
          have HK2:Hid (R=el3 true ((ab8 (C.drop (k+1))).map ((acc++[(n:Int)])++ ·))):=by
           show _=_
           rw[HK1.out,ab8,hfr]
           cases ab8 (C.drop (k+1))<;>simp
          have b4:((t.size:Int) !=4)=false:=by rw[h4];rfl
          have hset:(acc++List.replicate (3-k) 0).set k (n:Int)=(acc++[(n:Int)])++List.replicate (3-(k+1)) 0:=by
           rw[List.set_append_right _ _ (by omega),hal,Nat.sub_self,show 3-k=(3-(k+1))+1 by omega,List.replicate_succ,List.set_cons_zero,List.append_assoc]
           try rfl
          have hBw':=hBw.set k (.int .i64 (n:Int))
          rw[au8,hset] at hBw'
          have hne:w.heap.size≠w1.heap.size:=by omega
          have hB2':=hB2.other (p:=⟨w1.heap.size,k,none⟩) hne (.int .i64 (n:Int))
          have hst':Strs (wr.setCell ⟨w1.heap.size,k,none⟩ (.int .i64 (n:Int))) W.heap.size C:=(Below.heap_setCell wr ⟨w1.heap.size,k,none⟩ _ W.heap.size (by show W.heap.size≠w1.heap.size;omega)).trans hst
          have hb':=hbel.setCell (p:=⟨w1.heap.size,k,none⟩) (by show w.heap.size≤w1.heap.size;omega) (.int .i64 (n:Int))
          clear hfr HK1 hx hsk h4 hset hz4 hzb hBw hB2 hst hbel
          go_wp2_with fail
          refine(hrh _).mono ?_
          rintro _ w3 ⟨rfl,rfl⟩
          go_wp2_with fail
          go_roundw
          case rel=>exact⟨k+1,acc++[(n:Int)],by omega,by simp,by simp[hal],hBw',hB2',hst',HK2,hb'⟩
          case measure=>simp only[intOf];omega
         ·rw[if_neg (by omega)] at hfr
          have hRn:Hid (R=none):=by show _=_;rw[HK1.out,ab8,hfr];rfl
          have b4:((t.size:Int) !=4)=true:=by rw[bne_iff_ne];omega
          clear hfr HK1 hx hsk h4
          go_wp2_with fail
          refine(hrh _).mono ?_
          rintro _ w3 ⟨rfl,rfl⟩
          go_wp2_with fail
          refine bodyPost_ret (aa0 hz4 rfl rfl) rfl ?_
          exact⟨by rw[hRn.out];rfl,hzb⟩
       ·have hk3:k=3:=by have:=H3.out;omega
        have ha3:acc.length=3:=by omega
        obtain⟨x,y,z,rfl⟩: ∃x y z,acc=[x,y,z]:=by
         match acc,ha3 with
         | [x,y,z],_=>exact⟨x,y,z,rfl⟩
        have hBw':Blk wr w1.heap.size 260 #[.int .i64 x,.int .i64 y,.int .i64 z]:=by
         rw[hk3] at hBw
         exact hBw
        have hRs:Hid (R=some ⟨true,x,y,z⟩):=by show _=_;rw[HK.out,List.drop_of_length_le (by omega)];rfl
        have q0:wr.cell? ⟨w1.heap.size,0,none⟩=some (.int .i64 x):=hBw'.cell 0
        have q1:wr.cell? ⟨w1.heap.size,1,none⟩=some (.int .i64 y):=hBw'.cell 1
        have q2:wr.cell? ⟨w1.heap.size,2,none⟩=some (.int .i64 z):=hBw'.cell 2
        have hne:w.heap.size≠w1.heap.size:=by omega
        have hne': ¬w1.heap.size=w.heap.size:=by omega
        have hz4:=hB2.set4 (.bool true) (.int .i64 x) (.int .i64 y) (.int .i64 z)
        have hzb:=aet hbel (Nat.le_refl w.heap.size) (.bool true) (.int .i64 x) (.int .i64 y) (.int .i64 z)
        obtain⟨⟨d0,d1,d2,d3⟩,e0,e1,e2,e3⟩:=hB2.c4
        clear hBw hBw' HK hk3 ha3 hal hB2 hbel hst hcs hsp
        go_upto_region 16 with fail
        go_region
        go_wp2_with fail
        refine bodyPost_ret (aa0 (b:=w.heap.size) (show Blk _ _ _ _ from hz4) rfl rfl) rfl ?_
        exact⟨by rw[hRs.out];rfl,hzb.drew⟩
     ·have b3:((C.length:Int) !=3)=true:=by rw[bne_iff_ne];omega
      have hRn:R=none:=by rw[HER.out,an4 _ _ h3]
      have hz4:=hB1.set4 (.bool false) (.int .i64 0) (.int .i64 0) (.int .i64 0)
      have hzb:=aet hbw1 (Nat.le_refl w.heap.size) (.bool false) (.int .i64 0) (.int .i64 0) (.int .i64 0)
      obtain⟨⟨d0,d1,d2,d3⟩,e0,e1,e2,e3⟩:=hB1.c4
      have hl3:C.length≤65536:=by omega
      clear h3 HER hst
      go_wp2_with fail
      refine bodyPost_ret (aa0 hz4 rfl rfl) rfl ?_
      exact⟨by rw[hRn];rfl,hzb⟩
   ·rw[hno (fun h=>h16 h.2.2)]
    have b16:(((s[16]'(by omega)).toNat:Int) !=93)=true:=ahp (b:=93) h16
    rcases h1 with h1 | h1
    ·have b1:(((s[1]'(by omega)).toNat:Int) !=46)=false:=ahq (b:=46) h1
     clear hno g0 g1 g16 h0 h1 h16
     go_enter Tryz.func171,Tryz.ntmps171
     go_wp2_with fail
     refine bodyPost_ret (aa0 hB0 rfl rfl) rfl ?_
     exact⟨rfl,hbel⟩
    ·have b1:(((s[1]'(by omega)).toNat:Int) !=46)=true:=ahp (b:=46) (by rw[h1];decide)
     have b2:(((s[1]'(by omega)).toNat:Int) !=42)=false:=ahq (b:=42) h1
     clear hno g0 g1 g16 h0 h1 h16
     go_enter Tryz.func171,Tryz.ntmps171
     go_wp2_with fail
     refine bodyPost_ret (aa0 hB0 rfl rfl) rfl ?_
     exact⟨rfl,hbel⟩
  ·rw[hno (fun h=>h1 h.2.1)]
   have b1:(((s[1]'(by omega)).toNat:Int) !=46)=true:=ahp (b:=46) (fun e=>h1 (.inl e))
   have b2:(((s[1]'(by omega)).toNat:Int) !=42)=true:=ahp (b:=42) (fun e=>h1 (.inr e))
   clear hno g0 g1 g16 h0 h1
   go_enter Tryz.func171,Tryz.ntmps171
   go_wp2_with fail
   refine bodyPost_ret (aa0 hB0 rfl rfl) rfl ?_
   exact⟨rfl,hbel⟩
 ·rw[hno (fun h=>h0 h.1)]
  have b0:(((s[0]'(by omega)).toNat:Int) !=91)=true:=ahp (b:=91) h0
  clear hno g0 g1 g16 h0
  go_enter Tryz.func171,Tryz.ntmps171
  go_wp2_with fail
  refine bodyPost_ret (aa0 hB0 rfl rfl) rfl ?_
  exact⟨rfl,hbel⟩
theorem avq:(Tryz.prog.info? 131).map (fun i=>(i.zero,i.size,i.bytes))=some (some (.agg #[.bool false,.int .i64 0,.int .i64 0,.int .i64 0]),4,32):=by kernel_rfl
theorem aki {w:World}{ops:Array Oper}{rest:List Oper}{o:Oper}{a:Act}{Q:Exit→Act→World→Prop}(hgd:o.guard=none)(s x:Operand)
  (ho:o.op=.call {callee:=.builtin .append,args:= #[s,x],argTypes:= #[71,71]})
  (base:Nat) (v:Value) (l:List El) (hs:a.eval s=v) (hown:EOwn w base v l) (va:Bool) (pr se te:Int) (hx:a.eval x=.slice (some ⟨w.heap.size,0,none⟩) 1 1)
  (hlen:l.length≤1099511627776) (hbase:base≤w.heap.size)
  (h: ∀a' c' w',EOwn w' base (.slice a' (l.length+1) c') (l++[⟨va,pr,se,te⟩])→(w.alloc (.cells #[.bool va,.int .i64 pr,.int .i64 se,.int .i64 te] 131)).grownBy w' v.ownBlock→wpList Tryz.prog ops Q rest (a.put o.dst (.slice a' (l.length+1) c')) w'):
  wpList Tryz.prog ops Q (o::rest) a (w.alloc (.cells #[.bool va,.int .i64 pr,.int .i64 se,.int .i64 te] 131)):=by
 obtain⟨i,hi,hz,hsz,hby⟩:=info_parts avq
 have hb:=Blk.new w 131 #[.bool va,.int .i64 pr,.int .i64 se,.int .i64 te]
 refine wpList_append_own_at (P:=Tryz.prog) _ hgd s x 71 ho base 131 i _ 4 32 Tryz.underlying71 hi hz hsz hby rfl (by decide) v l.length (aji l) hs (World.ownsRow.alloc hown _) ⟨w.heap.size,0,none⟩ 1 1 [.bool va,.int .i64 pr,.int .i64 se,.int .i64 te] hx (by rfl) ?_ ?_ ?_ ?_ ?_ ?_
 ·intro j u hu
  match j,hu with
  | 0,hu=>simp at hu;subst hu;exact hb.cell 0
  | 1,hu=>simp at hu;subst hu;exact hb.cell 1
  | 2,hu=>simp at hu;subst hu;exact hb.cell 2
  | 3,hu=>simp at hu;subst hu;exact hb.cell 3
 ·intro u hu;simp at hu;rcases hu with rfl | rfl | rfl | rfl<;>rfl
 ·unfold maxLen;omega
 ·omega
 ·simp;omega
 ·intro v' w' h1 h2 _ _
  obtain⟨a',c',rfl⟩:=aax h1
  refine h a' c' w' ?_ h2
  unfold EOwn
  rw[al7,List.length_append]
  exact h1
def a68 (w:World)(r:Option (List El))(e:Ending)(w':World):Prop:=
 Below w.heap.size w w'∧match r with
 | none=>e=.returned (.tuple #[.slice none 0 0,.bool false])
 | some l=> ∃a n cap,e=.returned (.tuple #[.slice a n cap,.bool true])∧EOwn w' w.heap.size (.slice a n cap) l
theorem a7j (s:ByteArray)(k:Nat)(h:k+17≤s.size):(s.extract k (k+17)).data.toList=(s.data.toList.drop k).take 17∧(s.extract k (k+17)).size=17:=by
 refine⟨?_,?_⟩
 ·rw[aha];congr 1;omega
 ·rw[ByteArray.size_extract];omega
set_option maxHeartbeats 2000000 in
set_option maxRecDepth 20000 in
theorem akk (s:ByteArray)(m:Int)(w:World)(hs:s.size≤65536)(hm:w.cell? ⟨2,0,none⟩=some (.int .i64 m)):
  Calls Tryz.prog 136 #[.string s] w fun e w'=>a68 w (aik s.data.toList) e w':=by
 have hsl:s.data.toList.length=s.size:=(Lib.size_eq s).symm
 have hlt0:2<w.heap.size:=World.block_lt_of_cell? w _ hm
 by_cases hemp:s.data.toList=[]
 ·have hemp':s.toList.isEmpty=true:=by rw[ByteArray.toList_eq];simpa using hemp
  rw[show aik s.data.toList=none by simp[aik,hemp]]
  clear hemp
  go_enter Tryz.func136,Tryz.ntmps136
  go_wp2
  go_ret2
  exact⟨Below.refl _ _,rfl⟩
 ·have hemp':s.toList.isEmpty=false:=by rw[ByteArray.toList_eq];simpa using hemp
  by_cases hbig:272<s.size
  ·rw[show aik s.data.toList=none by unfold aik;rw[if_pos (.inr (.inl (by omega)))]]
   clear hemp
   go_enter Tryz.func136,Tryz.ntmps136
   go_wp2
   go_ret2
   exact⟨Below.refl _ _,rfl⟩
  ·by_cases hmod:s.size % 17=0
   ·have hR:aik s.data.toList=an9 (s.size/17) s.data.toList:=by
     unfold aik
     rw[hsl,if_neg (by rintro(h | h | h)<;>first | exact hemp h | omega)]
    have bm:(((s.size:Int) % 17) !=0)=false:=by
     rw[show ((s.size:Int) % 17)=0 by omega];rfl
    have bm':((Int.tmod (s.size:Int) 17) !=0)=false:=by
     rw[Int.tmod_eq_emod_of_nonneg (by omega),show((s.size:Int) % 17)=0 by omega];rfl
    generalize aik s.data.toList=R at hR⊢
    have HR:Hid (an9 ((s.size-0)/17) (s.data.toList.drop 0)=R):=by show _=_;rw[hR];rfl
    have HM:Hid (s.size % 17=0):=hmod
    clear hR hmod hemp
    go_enter Tryz.func136,Tryz.ntmps136
    go_wp2_with fail
    go_loopw [4,5] (fun v i wr=> ∃(k:Nat) (acc:List El),k≤s.size∧k % 17=0∧i=.int .i64 k∧EOwn wr w.heap.size v acc∧acc.length≤k∧Hid ((an9 ((s.size-k)/17) (s.data.toList.drop k)).map (acc++ ·)=R)∧Below w.heap.size w wr) (fun _ i _=>s.size-(intOf i).toNat)
    case atStart=>exact⟨0,[],by omega,by omega,rfl,EOwn.nil _ _,by simp,by show _=_;rw[←HR.out];simp,Below.refl _ _⟩
    case round=>
     clear HR
     obtain⟨k,acc,hk,hk17,rfl,hown,hal,HK,hbel⟩:=hrel
     obtain⟨av,cv,rfl⟩:=aax hown
     have hM:=HM.out
     by_cases hlt:k<s.size
     ·have h17:k+17≤s.size:=by omega
      obtain⟨ht,hts⟩:=a7j s k h17
      have hmr:=(hbel.cell (p:=⟨2,0,none⟩) hlt0).trans hm
      have hre:=alf (s.extract k (k+17)) m wr hts hmr
      rw[ht] at hre
      have hstep:an9 ((s.size-k)/17) (s.data.toList.drop k)=match elR ((s.data.toList.drop k).take 17) with
       | none=>none
       | some e=>match an9 ((s.size-(k+17))/17) (s.data.toList.drop (k+17)) with
        | none=>none
        | some l=>some (e::l):=by
       rw[show (s.size-k)/17=(s.size-(k+17))/17+1 by omega,an9,List.drop_drop]
       try rfl
      have hKK:=HK.out
      rw[hstep] at hKK
      generalize elR ((s.data.toList.drop k).take 17)=E at hre hKK
      clear hstep HK ht hts hM
      cases E with
      | none=>
       have hRn:R=none:=by rw[←hKK];rfl
       clear hKK
       simp only[a81] at hre
       go_wp2_with fail
       refine hre.mono ?_
       rintro _ w1 ⟨rfl,hb1⟩
       have hb2:=(hbel.trans (hb1.mono hbel.size)).alloc (hbel.trans (hb1.mono hbel.size)).size (.cells #[.bool false,.int .i64 0,.int .i64 0,.int .i64 0] 131)
       go_wp2
       go_ret2
       exact⟨hb2,by rw[hRn];rfl⟩
      | some e=>
       obtain⟨va,pr,se,te⟩:=e
       have HK2:Hid ((an9 ((s.size-(k+17))/17) (s.data.toList.drop (k+17))).map ((acc++[⟨va,pr,se,te⟩])++ ·)=R):=by
        show _=_
        rw[←hKK]
        cases an9 ((s.size-(k+17))/17) (s.data.toList.drop (k+17))<;>simp
       clear hKK
       simp only[a81] at hre
       go_wp2_with fail
       refine hre.mono ?_
       rintro _ w1 ⟨rfl,hb1⟩
       have hbx:Below w.heap.size w w1:=hbel.trans (hb1.mono hbel.size)
       have hb2:=hbx.alloc hbx.size (.cells #[.bool va,.int .i64 pr,.int .i64 se,.int .i64 te] 131)
       have hown2:EOwn (w1.alloc (.cells #[.bool va,.int .i64 pr,.int .i64 se,.int .i64 te] 131)) w.heap.size _ acc:=World.ownsRow.alloc (aad hown hb1) _
       have hB2:=Blk.new w1 131 #[.bool va,.int .i64 pr,.int .i64 se,.int .i64 te]
       go_upto_region 10 with fail
       generalize hW:w1.alloc (.cells #[.bool va,.int .i64 pr,.int .i64 se,.int .i64 te] 131)=W at hb2 hown2 hB2⊢
       clear hW
       obtain⟨⟨d0,d1,d2,d3⟩,_⟩:=hB2.c4
       have hb3:=hb2.alloc hb2.size (.cells #[.bool va,.int .i64 pr,.int .i64 se,.int .i64 te] 131)
       go_wp2_with (first | (at_builtin;refine aki rfl _ _ rfl w.heap.size _ acc rfl hown2 va pr se te rfl (by omega) hb2.size ?_;intro a' c' w3 hown3 hgr3))
       have hb4:Below w.heap.size w w3:=hb3.grown hgr3 hb3.size (fun j hj=>(aan hown2 hj).1)
       go_wp2
       go_roundw
       case rel=>exact⟨k+17,acc++[⟨va,pr,se,te⟩],by omega,by omega,by simp,by simpa using hown3,by simp;omega,HK2,hb4⟩
       case measure=>simp only[intOf];omega
     ·have hRs:R=some acc:=by
       rw[←HK.out,show(s.size-k)/17=0 by omega]
       simp[an9]
      clear HK
      go_wp2
      go_ret2
      exact⟨hbel,by rw[hRs];exact⟨_,_,_,rfl,hown⟩⟩
   ·rw[show aik s.data.toList=none by unfold aik;rw[if_pos (.inr (.inr (by omega)))]]
    have bm:(((s.size:Int) % 17) !=0)=true:=by
     rw[bne_iff_ne];omega
    have bm':((Int.tmod (s.size:Int) 17) !=0)=true:=by
     rw[Int.tmod_eq_emod_of_nonneg (by omega),bne_iff_ne];omega
    clear hemp hmod
    go_enter Tryz.func136,Tryz.ntmps136
    go_wp2
    go_ret2
    exact⟨Below.refl _ _,rfl⟩
end Go.Proofs.YtfhpgmlfgjfknaaGreatDoor
