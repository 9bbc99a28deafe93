/- Contracts and lemmas (nothing is claimed here). -/
import Derived.Test.YtpfkoldfbecdlaaGreatDoorJ19
namespace Go.Proofs.YtpfkoldfbecdlaaGreatDoor
open Go.RowKit Go.Vf Go.Maps
def LinePost (l:List UInt8)(w:World)(e:Ending)(w':World):Prop:=Below w.heap.size w w'∧match ac4 l with
 | none=> ∃p k a n cap,e=.returned (.tuple #[.agg #[.int .i64 p,.int .i64 k,.slice a n cap],.bool false])
 | some (p,k,ps)=> ∃a n cap,e=.returned (.tuple #[.agg #[.int .i64 p,.int .i64 k,.slice a n cap],.bool true])∧IOwn w' w.heap.size (.slice a n cap) ps
theorem ac9 {tmps:Array Value}{w:World}{h:Nat}{x y z b:Value}(hb:Blk w h 120 #[x,y,z])(t2:tmps[2]?.getD undef=.pointer (some ⟨h,0,none⟩))(t3:tmps[3]?.getD undef=b):
  (results Tryz.f49 tmps).run Tryz.prog w=.ok (.tuple #[.agg #[x,y,z],b]) w:=by
 have c0:w.cell? ⟨h,0,none⟩=some x:=hb.cell 0
 have c1:w.cell? ⟨h,1,none⟩=some y:=hb.cell 1
 have c2:w.cell? ⟨h,2,none⟩=some z:=hb.cell 2
 simp[results,Tryz.results49,go_sem,t2,t3,c0,c1,c2]
theorem SOwn.cells {w:World}{base:Nat}{v:Value}{ss:List (List UInt8)}(h:SOwn w base v ss)(hne:0<ss.length): ∃g cap,v=.slice (some ⟨g,0,none⟩) ss.length cap∧g<w.heap.size∧base≤g∧ ∀j (hj:j<ss.length),w.cell? ⟨g,j,none⟩=some (.string (bsz ss[j])):=by
 rcases h.2 with ⟨_,h0⟩ | ⟨g,cap,cur,hv,hb,hg,hc,hm,hs,ht⟩
 ·omega
 ·refine⟨g,cap,hv,(Array.getElem?_eq_some_iff.1 hg).1,hb,fun j hj=> ?_⟩
  have hu:(ss.map fun l=>Value.string (bsz l))[j]? =some (.string (bsz ss[j])):=by simp[hj]
  rw[←ht] at hu
  have hj2:=(List.getElem?_eq_some_iff.1 hu).1
  rw[List.getElem?_take_of_lt (by rw[List.length_take] at hj2;omega)] at hu
  simp only[World.cell?,hg]
  simpa using hu
theorem pointsR_at (cs:List (List UInt8))(j:Nat)(hj:j<cs.length):abd (cs.drop j)=match abc cs[j] with
  | none=>none
  | some p=>match abd (cs.drop (j+1)) with
   | none=>none
   | some l=>some (p::l):=by
 rw[List.drop_eq_getElem_cons hj,abd]
 cases abc cs[j] with
 | none=>rfl
 | some p=>cases abd (cs.drop (j+1))<;>rfl
def withAcc (acc:List Int):Option (List Int)→Option (List Int)
 | none=>none
 | some r=>some (acc++r)
theorem markR_short {l:List UInt8}(h:(aa7 59 l).length≠3):ac4 l=none:=by
 unfold ac4 markC
 split
 ·rename_i a b c e
  rw[e] at h
  simp at h
 ·rfl
theorem markR_three {l a b c:List UInt8}(h:aa7 59 l=[a,b,c]):ac4 l=match abc a with
  | none=>none
  | some p=>match ach b with
   | none=>none
   | some k=>match afa c with
    | none=>none
    | some ps=>some (p,k,ps):=by
 unfold ac4
 rw[h]
 rfl
set_option maxHeartbeats 4000000 in
set_option maxRecDepth 20000 in
theorem refLine_any (s:ByteArray)(hs:s.size≤65536)(w:World):Calls Tryz.prog 49 #[.string s] w fun e w'=>LinePost s.data.toList w e w':=by
 have hb0:=((Below.refl w.heap.size w).alloc (Nat.le_refl _) (.cells #[.int .i64 0,.int .i64 0,.slice none 0 0] 120)).alloc (by simp) (.cells #[.int .i64 0,.int .i64 0,.slice none 0 0] 120)
 have hn1:Blk ((w.alloc (.cells #[.int .i64 0,.int .i64 0,.slice none 0 0] 120)).alloc (.cells #[.int .i64 0,.int .i64 0,.slice none 0 0] 120)) w.heap.size 120 #[.int .i64 0,.int .i64 0,.slice none 0 0]:=(Below.heap_alloc _ _ _ (by simp)).trans (Blk.new w 120 _)
 have hn2:Blk ((w.alloc (.cells #[.int .i64 0,.int .i64 0,.slice none 0 0] 120)).alloc (.cells #[.int .i64 0,.int .i64 0,.slice none 0 0] 120)) (w.heap.size+1) 120 #[.int .i64 0,.int .i64 0,.slice none 0 0]:=by
  have:=Blk.new (w.alloc (.cells #[.int .i64 0,.int .i64 0,.slice none 0 0] 120)) 120 #[.int .i64 0,.int .i64 0,.slice none 0 0]
  simpa using this
 have hsz:((w.alloc (.cells #[.int .i64 0,.int .i64 0,.slice none 0 0] 120)).alloc (.cells #[.int .i64 0,.int .i64 0,.slice none 0 0] 120)).heap.size=w.heap.size+2:=by simp
 go_enter Tryz.func49,Tryz.ntmps49
 go_upto_region 2 with fail
 generalize (w.alloc (.cells #[.int .i64 0,.int .i64 0,.slice none 0 0] 120)).alloc (.cells #[.int .i64 0,.int .i64 0,.slice none 0 0] 120)=W at hb0 hn1 hn2 hsz⊢
 have HSZ:Hid (W.heap.size=w.heap.size+2):=hsz
 clear hsz
 have hcut:=agu s 59 hs W
 go_wp2_with fail
 refine hcut.mono ?_
 rintro e w1 ⟨a1,k1,c1,rfl,hown1,hb1⟩
 have hr1:=hn1.below hb1 hn1.lt
 have hm1:=hn2.below hb1 hn2.lt
 have hbw1:Below w.heap.size w w1:=hb0.trans (hb1.mono hb0.size)
 have hW1:w.heap.size+2≤w1.heap.size:=by have:=hb1.size;rw[HSZ.out] at this;exact this
 have hk1:k1=(aa7 59 s.data.toList).length:=by obtain⟨_,_,e⟩:=aba hown1;cases e;rfl
 have HSS:Hid (∀x∈aa7 59 s.data.toList,x.length≤65536):=fun x hx=>Nat.le_trans (abj 59 _ x hx) (by rw[←Lib.size_eq];exact hs)
 by_cases h3:k1=3
 ·rw[h3] at hk1
  obtain⟨ta,tb,tc,hcl⟩: ∃ta tb tc,aa7 59 s.data.toList=[ta,tb,tc]:=list_three hk1.symm
  have HMR:=markR_three hcl
  have HM:Hid (ac4 s.data.toList=match abc ta with
   | none=>none
   | some p=>match ach tb with
    | none=>none
    | some k=>match afa tc with
     | none=>none
     | some ps=>some (p,k,ps)):=HMR
  have hza:=HSS.out ta (by rw[hcl];simp)
  have hzb:=HSS.out tb (by rw[hcl];simp)
  have hzc:=HSS.out tc (by rw[hcl];simp)
  rw[hcl] at hown1
  obtain⟨g,cp,e1,hg,hgW,hcells⟩:=hown1.cells (by simp)
  rw[HSZ.out] at hgW
  cases e1
  have q0:=hcells 0 (by simp)
  have q1:=hcells 1 (by simp)
  have q2:=hcells 2 (by simp)
  simp only[List.getElem_cons_zero,List.getElem_cons_succ] at q0 q1 q2
  clear hcells hk1 hcl HMR hown1 HSS hn1 hn2 hcut h3
  have hpa:=part_any (bsz ta) (by rw[ab8];omega) w1
  obtain⟨⟨r0,r1,r2⟩,rz0,rz1,rz2⟩:=abo hr1
  obtain⟨⟨m0,m1,m2⟩,mz0,mz1,mz2⟩:=abo hm1
  go_wp2_with fail
  refine hpa.mono ?_
  rintro e w2 ⟨x,bx,rfl,hx,rfl⟩
  have hcb:=refClass_any (bsz tb) w1
  go_wp2_with fail
  refine hcb.mono ?_
  rintro e w3 ⟨y,yb,rfl,hy,hb3⟩
  have hx':(bx=true∧abc ta=some x)∨(bx=false∧abc ta=none):=by simpa using hx
  have hy':(yb=true∧ach tb=some y)∨(yb=false∧ach tb=none):=by simpa using hy
  have hr3:=hr1.below hb3 hr1.lt
  have hm3:=hm1.below hb3 hm1.lt
  have hbw3:=hbw1.trans (hb3.mono hbw1.size)
  have k2:=(hb3.cell (p:=⟨g,2,none⟩) hg).trans q2
  have hW3:w.heap.size+2≤w3.heap.size:=Nat.le_trans hW1 hb3.size
  clear hx hy hpa hcb r0 r1 r2 rz0 rz1 rz2 m0 m1 m2 mz0 mz1 mz2 q0 q1 q2
  obtain⟨⟨r0,r1,r2⟩,rz0,rz1,rz2⟩:=abo hr3
  obtain⟨⟨m0,m1,m2⟩,mz0,mz1,mz2⟩:=abo hm3
  rcases hx' with ⟨rfl,hx'⟩ | ⟨rfl,hx'⟩
  ·rcases hy' with ⟨rfl,hy'⟩ | ⟨rfl,hy'⟩
   ·rw[hx',hy'] at HM
    clear hx' hy'
    have hm4:Blk ((w3.setCell ⟨w.heap.size+1,0,none⟩ (.int .i64 x)).setCell ⟨w.heap.size+1,1,none⟩ (.int .i64 y)) (w.heap.size+1) 120 #[.int .i64 x,.int .i64 y,.slice none 0 0]:=(hm3.set 0 (.int .i64 x)).set 1 (.int .i64 y)
    have hr4:Blk ((w3.setCell ⟨w.heap.size+1,0,none⟩ (.int .i64 x)).setCell ⟨w.heap.size+1,1,none⟩ (.int .i64 y)) w.heap.size 120 #[.int .i64 0,.int .i64 0,.slice none 0 0]:=hr3.below (((Below.refl (w.heap.size+1) w3).setCell (Nat.le_refl _) _).setCell (Nat.le_refl _) _) (by omega)
    have hbw4:Below w.heap.size w ((w3.setCell ⟨w.heap.size+1,0,none⟩ (.int .i64 x)).setCell ⟨w.heap.size+1,1,none⟩ (.int .i64 y)):=(hbw3.setCell (by show w.heap.size≤w.heap.size+1;omega) _).setCell (by show w.heap.size≤w.heap.size+1;omega) _
    have hg4:((w3.setCell ⟨w.heap.size+1,0,none⟩ (.int .i64 x)).setCell ⟨w.heap.size+1,1,none⟩ (.int .i64 y)).heap[g]? =w3.heap[g]?:=(Below.heap_setCell _ ⟨w.heap.size+1,1,none⟩ _ g (by show g≠w.heap.size+1;omega)).trans (Below.heap_setCell _ ⟨w.heap.size+1,0,none⟩ _ g (by show g≠w.heap.size+1;omega))
    have k4:((w3.setCell ⟨w.heap.size+1,0,none⟩ (.int .i64 x)).setCell ⟨w.heap.size+1,1,none⟩ (.int .i64 y)).cell? ⟨g,2,none⟩=some (.string (bsz tc)):=by
     rw[←k2]
     simp only[World.cell?,hg4]
    have hW4:w.heap.size+2≤((w3.setCell ⟨w.heap.size+1,0,none⟩ (.int .i64 x)).setCell ⟨w.heap.size+1,1,none⟩ (.int .i64 y)).heap.size:=by
     simpa[World.setCell] using hW3
    clear hg4 k2 hb3 hm1 hr1 hb1
    go_upto_region 11 with fail
    generalize (w3.setCell ⟨w.heap.size+1,0,none⟩ (.int .i64 x)).setCell ⟨w.heap.size+1,1,none⟩ (.int .i64 y)=w4 at hm4 hr4 hbw4 k4 hW4⊢
    clear r0 r1 r2 rz0 rz1 rz2 m0 m1 m2 mz0 mz1 mz2 hr3 hm3 hbw3 hbw1 hW1 hW3
    obtain⟨⟨r0,r1,r2⟩,rz0,rz1,rz2⟩:=abo hr4
    obtain⟨⟨m0,m1,m2⟩,mz0,mz1,mz2⟩:=abo hm4
    by_cases hemp:tc=[]
    ·subst hemp
     have HY:Hid (ac4 s.data.toList=some (x,y,[])):=by show _=_;rw[HM.out];rfl
     clear HM
     go_wp2_with fail
     refine bodyPost_ret (ac9 (hr4.set3 _ _ _) rfl rfl) rfl ?_
     exact⟨hbw4.trans (abb (Nat.le_refl _)),by rw[HY.out];exact⟨none,0,0,rfl,IOwn.nil _ _⟩⟩
    ·have hemp':(bsz tc).toList.isEmpty=false:=by rw[ByteArray.toList_eq];simpa using hemp
     have hemp2:tc.isEmpty=false:=by simpa using hemp
     have HMP:Hid (ac4 s.data.toList=match abd (aa7 32 tc) with
      | none=>none
      | some ps=>some (x,y,ps)):=by
      show _=_
      rw[HM.out]
      unfold afa
      rw[if_neg hemp]
     clear HM
     have hcut2:=agu (bsz tc) 32 (by rw[ab8];exact hzc) w4
     clear r0 r1 r2 rz0 rz1 rz2 m0 m1 m2 mz0 mz1 mz2
     go_wp2_with fail
     refine hcut2.mono ?_
     rintro e w5 ⟨a5,k5,c5,rfl,hown5,hb5⟩
     have hown5':SOwn w5 w4.heap.size (.slice a5 k5 c5) (aa7 32 tc):=hown5
     have hcz: ∀x∈aa7 32 tc,x.length≤65536:=fun x hx=>Nat.le_trans (abj 32 _ x hx) hzc
     have hcl2:=abn 32 tc
     have hcpos:0<(aa7 32 tc).length:=List.length_pos_iff.2 (cutL_ne 32 tc)
     generalize aa7 32 tc=cs at hown5' hcz hcl2 hcpos HMP
     obtain⟨g5,cp5,e5,hg5,hgW5,hcell5⟩:=hown5'.cells hcpos
     simp only[Value.slice.injEq] at e5
     obtain⟨rfl,hk5,rfl⟩:=e5
     have HK5:Hid (k5=cs.length):=hk5
     have hr5:=hr4.below hb5 hr4.lt
     have hm5:=hm4.below hb5 hm4.lt
     have hbw5:=hbw4.trans (hb5.mono hbw4.size)
     have hk5l:k5≤65537:=by rw[hk5];omega
     have hW5:w.heap.size+2≤w5.heap.size:=Nat.le_trans hW4 hb5.size
     have HCS:Hid (∀x:World,(∀k,k<w5.heap.size→k≠w.heap.size+1→x.heap[k]? =w5.heap[k]?)→(Blk x w.heap.size 120 #[.int .i64 0,.int .i64 0,.slice none 0 0]∧ ∀j (hj:j<cs.length),x.cell? ⟨g5,j,none⟩=some (.string (bsz cs[j])))):=fun x hx=>⟨(hx _ (by omega) (by omega)).trans hr5,fun j hj=>by
      rw[←hcell5 j hj]
      simp only[World.cell?,hx g5 hg5 (by omega)]⟩
     clear hown5 hown5' hcut2 hk5 hcell5 k4 hr4 hm4 hr5 hcpos hcl2 hb5
     go_wp2_with fail
     go_loopw [11,12,13] (fun i _ _ wr=> ∃(j:Nat) (acc:List Int) (av:Option Addr) (ac:Nat),j≤k5∧i=.int .i64 j∧acc.length=j∧Blk wr (w.heap.size+1) 120 #[.int .i64 x,.int .i64 y,.slice av acc.length ac]∧IOwn wr w5.heap.size (.slice av acc.length ac) acc∧Hid (abd cs=withAcc acc (abd (cs.drop j)))∧(∀k,k<w5.heap.size→k≠w.heap.size+1→wr.heap[k]? =w5.heap[k]?)∧Below w.heap.size w wr∧w5.heap.size≤wr.heap.size) (fun i _ _ _=>k5-(intOf i).toNat)
     case atStart=>exact⟨0,[],none,0,by omega,rfl,rfl,hm5,IOwn.nil _ _,by show _=_;rw[List.drop_zero];cases abd cs<;>rfl,fun _ _ _=>rfl,hbw5,Nat.le_refl _⟩
     case round=>
      obtain⟨j,acc,av,ac,hj,rfl,haj,hmr,hown,HP,hkp,hbel,hsz⟩:=hrel
      have HAJ:Hid (acc.length=j):=haj
      clear haj
      obtain⟨hrr,hcell⟩:=HCS.out wr hkp
      obtain⟨⟨r0,r1,r2⟩,rz0,rz1,rz2⟩:=abo hrr
      obtain⟨⟨m0,m1,m2⟩,mz0,mz1,mz2⟩:=abo hmr
      by_cases hlt:j<k5
      ·have hltc:j<cs.length:=by rw[←HK5.out];exact hlt
       have hcj:=hcell j hltc
       have hzj:=hcz _ (List.getElem_mem hltc)
       have hst:=pointsR_at cs j hltc
       generalize cs[j]=tj at hcj hzj hst
       have hpj:=part_any (bsz tj) (by rw[ab8];omega) wr
       clear hcell
       go_wp2_with fail
       refine hpj.mono ?_
       rintro e w6 ⟨q,bq,rfl,hq,rfl⟩
       have hq':(bq=true∧abc tj=some q)∨(bq=false∧abc tj=none):=by simpa using hq
       clear hq hpj
       rcases hq' with ⟨rfl,hq'⟩ | ⟨rfl,hq'⟩
       ·have HP2:Hid (abd cs=withAcc (acc++[q]) (abd (cs.drop (j+1)))):=by
         show _=_
         rw[HP.out,hst,hq']
         cases abd (cs.drop (j+1))<;>simp[withAcc]
        clear HP hst hq'
        have hown':IOwn (wr.alloc (.cells #[.int .i64 q] 3)) w5.heap.size (.slice av acc.length ac) acc:=World.ownsRow.alloc hown _
        have HN2:Hid (∀i,i<([q]:List Int).length→(wr.alloc (.cells #[.int .i64 q] 3)).cell? ((⟨wr.heap.size,0,none⟩:Addr).add i)=some (.int .i64 (([q]:List Int)[i]?.getD 0))):=fun i hi=>by
         have:i=0:=by simp at hi;omega
         subst this
         exact(Blk.new wr 3 #[.int .i64 q]).cell 0
        have hsum:acc.length+([q]:List Int).length≤1099511627776:=by have:=HAJ.out;simp;omega
        have hsz2:w5.heap.size≤(wr.alloc (.cells #[.int .i64 q] 3)).heap.size:=by simp;omega
        go_wp2_with (first | (at_builtin;refine aaf rfl _ _ rfl w5.heap.size _ acc rfl hown' [q] ⟨wr.heap.size,0,none⟩ _ rfl HN2.out hsum hsz2 ?_;intro a7 c7 w7 hown7 hgr7 hnil7 hat7;have hb7:Below w5.heap.size wr w7:=((Below.refl w5.heap.size wr).alloc hsz _).grown hgr7 hsz2 (fun i hi=>(aah hown' hi).1);have hm7:=hmr.below hb7 (by omega);have y2:w7.cell? ⟨w.heap.size+1,2,none⟩=some (.slice av acc.length ac):=hm7.cell 2;have yz:=hm7.frozen 2;clear hnil7 hat7))
        have hlen1:(acc++[q]).length=acc.length+1:=by simp
        have hm8:Blk (w7.setCell ⟨w.heap.size+1,2,none⟩ (.slice a7 (acc.length+1) c7)) (w.heap.size+1) 120 #[.int .i64 x,.int .i64 y,.slice a7 (acc++[q]).length c7]:=by
         rw[hlen1]
         exact hm7.set 2 _
        have hown8:IOwn (w7.setCell ⟨w.heap.size+1,2,none⟩ (.slice a7 (acc.length+1) c7)) w5.heap.size (.slice a7 (acc++[q]).length c7) (acc++[q]):=by
         refine aan ?_ (show w.heap.size+1<w5.heap.size by omega) _
         rw[hlen1]
         have h9:=hown7
         unfold IOwn at h9
         rw[hlen1] at h9
         exact h9
        have hsz8:w5.heap.size≤(w7.setCell ⟨w.heap.size+1,2,none⟩ (.slice a7 (acc.length+1) c7)).heap.size:=by
         have:=Nat.le_trans hsz hb7.size
         simpa[World.setCell] using this
        exact⟨⟨j+1,acc++[q],a7,c7,by omega,by go_num,by rw[hlen1,HAJ.out],hm8,hown8,HP2,fun k hk hne=>(Below.heap_setCell _ ⟨w.heap.size+1,2,none⟩ _ k hne).trans ((hb7.block k hk).trans (hkp k hk hne)),(hbel.trans (hb7.mono (by omega))).setCell (show w.heap.size≤w.heap.size+1 by omega) _,hsz8⟩,by simp only[intOf];omega⟩
       ·have HF:Hid (ac4 s.data.toList=none):=by
         show _=_
         rw[HMP.out,HP.out,hst,hq']
         rfl
        clear HMP HP hst hq'
        go_wp2_with fail
        refine bodyPost_ret (ac9 (hrr.set3 _ _ _) rfl rfl) rfl ?_
        exact⟨hbel.trans (abb (Nat.le_refl _)),by rw[HF.out];exact⟨_,_,_,_,_,rfl⟩⟩
      ·obtain rfl:j=k5:=by omega
       have HY:Hid (ac4 s.data.toList=some (x,y,acc)):=by
        show _=_
        rw[HMP.out,HP.out,List.drop_of_length_le (by rw[←HK5.out];exact Nat.le_refl _)]
        simp[abd,withAcc]
       clear HMP HP
       go_wp2_with fail
       refine bodyPost_ret (ac9 (hrr.set3 _ _ _) rfl rfl) rfl ?_
       refine⟨hbel.trans (abb (Nat.le_refl _)),?_⟩
       rw[HY.out]
       refine⟨av,acc.length,ac,rfl,?_⟩
       have h1:=aan (aan (aan hown (p:=⟨w.heap.size,0,none⟩) (show w.heap.size<w5.heap.size by omega) (.int .i64 x)) (p:=⟨w.heap.size,1,none⟩) (show w.heap.size<w5.heap.size by omega) (.int .i64 y)) (p:=⟨w.heap.size,2,none⟩) (show w.heap.size<w5.heap.size by omega) (.slice av acc.length ac)
       exact aae h1 (by omega)
   ·have HF:Hid (ac4 s.data.toList=none):=by show _=_;rw[HM.out,hx',hy']
    clear HM hx' hy'
    go_wp2_with fail
    refine bodyPost_ret (ac9 (hr3.set3 _ _ _) rfl rfl) rfl ?_
    exact⟨(hbw3).trans (abb (Nat.le_refl _)),by rw[HF.out];exact⟨_,_,_,_,_,rfl⟩⟩
  ·have HF:Hid (ac4 s.data.toList=none):=by show _=_;rw[HM.out,hx']
   clear HM hx' hy'
   go_wp2_with fail
   refine bodyPost_ret (ac9 (hr3.set3 _ _ _) rfl rfl) rfl ?_
   exact⟨(hbw3).trans (abb (Nat.le_refl _)),by rw[HF.out];exact⟨_,_,_,_,_,rfl⟩⟩
 ·have HF:Hid (ac4 s.data.toList=none):=markR_short (by rw[←hk1];exact h3)
  have h3':((k1:Int) !=3)=true:=by simp;omega
  obtain⟨⟨r0,r1,r2⟩,rz0,rz1,rz2⟩:=abo hr1
  obtain⟨⟨m0,m1,m2⟩,mz0,mz1,mz2⟩:=abo hm1
  clear hk1 HSS
  go_wp2_with fail
  refine bodyPost_ret (ac9 (hr1.set3 _ _ _) rfl rfl) rfl ?_
  exact⟨(hbw1).trans (abb (Nat.le_refl _)),by rw[HF.out];exact⟨_,_,_,_,_,rfl⟩⟩
structure PlaceAt (l:List PM)(p:Int)(k:Nat):Prop where
 le:k≤l.length
 lo: ∀i (h:i<l.length),i<k→(l[i]).point<p
 hi: ∀i (h:i<l.length),k≤i→p≤(l[i]).point
def PlacePost (l:List PM)(p:Int)(w:World)(e:Ending)(w':World):Prop:= ∃(k:Nat) (b:Bool),PlaceAt l p k∧e=.returned (.tuple #[.int .i64 k,.bool b])∧((b=true∧ ∃h:k<l.length,(l[k]).point=p)∨(b=false∧ ∀i (h:i<l.length),(l[i]).point≠p))∧Below w.heap.size w w'
theorem afm {tmps:Array Value}{w:World}{a b:Value}(t2:tmps[4]?.getD undef=a)(t3:tmps[5]?.getD undef=b):(results Tryz.f50 tmps).run Tryz.prog w=.ok (.tuple #[a,b]) w:=by
 simp[results,Tryz.results50,go_sem,t2,t3]
theorem agd {l:List PM}(h:(l.map PM.point).Pairwise (· < ·)){i j:Nat}(hi:i<l.length)(hj:j<l.length)(hij:i<j):(l[i]).point<(l[j]).point:=by
 have:=List.pairwise_iff_getElem.1 h i j (by simpa using hi) (by simpa using hj) hij
 simpa using this
set_option maxHeartbeats 4000000 in
set_option maxRecDepth 20000 in
theorem agh (l:List PM)(hrise:(l.map PM.point).Pairwise (· < ·))(hll:l.length≤1048576)(v:Value)(p:Int)(n₀:Nat)(w:World)(hn₀:n₀≤w.heap.size)(hin:MIn n₀ w v l):
  Calls Tryz.prog 50 #[.agg #[v],.int .i64 p] w fun e w'=>PlacePost l p w e w':=by
 obtain⟨a,cap,rfl⟩:=hin.val
 have hb0:=(Below.refl w.heap.size w).alloc (Nat.le_refl _) (.cells #[.slice a l.length cap] 28)
 have hbn:=Blk.new w 28 #[.slice a l.length cap]
 have hin0:=hin.below hb0 hn₀
 go_enter Tryz.func50,Tryz.ntmps50
 go_upto_region 1 with fail
 generalize w.alloc (.cells #[.slice a l.length cap] 28)=W at hb0 hbn hin0⊢
 have e0:W.cell? ⟨w.heap.size,0,none⟩=some (.slice a l.length cap):=hbn.cell 0
 go_wp2_with fail
 go_loopw [6,7,8] (fun x y _ wr=> ∃(lo hi:Nat),lo≤hi∧hi≤l.length∧x=.int .i64 lo∧y=.int .i64 hi∧Hid ((∀i (h:i<l.length),i<lo→(l[i]).point<p)∧(∀i (h:i<l.length),hi≤i→p≤(l[i]).point))∧wr=W) (fun x y _ _=>(intOf y).toNat-(intOf x).toNat)
 case atStart=>exact⟨0,l.length,by omega,by omega,rfl,rfl,⟨fun i h h2=>absurd h2 (by omega),fun i h h2=>absurd h (by omega)⟩,rfl⟩
 case round=>
  obtain⟨lo,hi,hle,hhi,rfl,rfl,HI,rfl⟩:=hrel
  by_cases hlt:lo<hi
  ·have hmid:(lo+hi)/2<l.length:=by omega
   obtain⟨b,off,hao,pa,pk,pc,c0,_⟩:=hin0.at hmid
   subst hao
   have HL:Hid (∀i (h:i<l.length),i<(lo+hi)/2+1→(l[i]).point<p∨(l[(lo+hi)/2]).point≥p):=fun i h h2=>by
    by_cases hp:(l[(lo+hi)/2]).point<p
    ·left
     rcases Nat.lt_or_ge i ((lo+hi)/2) with h3 | h3
     ·have:=agd hrise h hmid h3;omega
     ·obtain rfl:i=(lo+hi)/2:=by omega
      exact hp
    ·right;omega
   have HH:Hid (∀i (h:i<l.length),(lo+hi)/2≤i→p≤(l[i]).point∨(l[(lo+hi)/2]).point<p):=fun i h h2=>by
    by_cases hp:(l[(lo+hi)/2]).point<p
    ·right;exact hp
    ·left
     rcases Nat.lt_or_ge ((lo+hi)/2) i with h3 | h3
     ·have:=agd hrise hmid h h3;omega
     ·obtain rfl:i=(lo+hi)/2:=by omega
      omega
   generalize (l[(lo+hi)/2]).point=pt at c0 HL HH
   have hm1:lo≤(lo+hi)/2∧(lo+hi)/2<hi:=by omega
   obtain⟨M,hM⟩: ∃M,(lo+hi)/2=M:=⟨_,rfl⟩
   have hMi:((lo:Int)+(hi:Int))/2=(M:Int):=by omega
   rw[hM] at c0 HL HH hm1 hmid
   by_cases hp:pt<p
   ·have HI2:Hid ((∀i (h:i<l.length),i<M+1→(l[i]).point<p)∧(∀i (h:i<l.length),hi≤i→p≤(l[i]).point)):=⟨fun i h h2=>(HL.out i h h2).resolve_right (by omega),HI.out.2⟩
    clear HI HL HH hM
    go_wp2_with fail
    exact⟨⟨M+1,hi,by omega,by omega,by go_num,rfl,HI2,trivial⟩,by simp only[intOf];omega⟩
   ·have HI2:Hid ((∀i (h:i<l.length),i<lo→(l[i]).point<p)∧(∀i (h:i<l.length),M≤i→p≤(l[i]).point)):=⟨HI.out.1,fun i h h2=>(HH.out i h h2).resolve_right hp⟩
    clear HI HL HH hM
    go_wp2_with fail
    exact⟨⟨lo,M,by omega,by omega,rfl,congrArg (Value.int .i64) hMi,HI2,trivial⟩,by simp only[intOf];omega⟩
  ·obtain rfl:hi=lo:=by omega
   have HPA:Hid (PlaceAt l p hi):=⟨hhi,HI.out.1,HI.out.2⟩
   clear HI
   by_cases hk:hi<l.length
   ·obtain⟨b,off,hao,pa,pk,pc,c0,_⟩:=hin0.at hk
    subst hao
    obtain⟨pt,hpt⟩: ∃pt,(l[hi]).point=pt:=⟨_,rfl⟩
    have HPT:Hid ((l[hi]).point=pt):=hpt
    rw[hpt] at c0
    clear hpt
    have d1:decide ((hi:Int)<(l.length:Int))=true:=by simp;omega
    by_cases hp:pt=p
    ·have d2:(pt==p)=true:=by simp[hp]
     have HY:Hid (∃h:hi<l.length,(l[hi]).point=p):=⟨hk,by rw[HPT.out,hp]⟩
     clear hp
     go_wp2_with fail
     go_quiet (fail)
     go_wp2
     refine bodyPost_ret (afm rfl rfl) rfl ?_
     exact⟨hi,true,HPA.out,rfl,.inl ⟨rfl,HY.out⟩,hb0.trans (ab9 wr _ _)⟩
    ·have d2:(pt==p)=false:=by simp[hp]
     have HN:Hid (∀i (h:i<l.length),(l[i]).point≠p):=fun i h e=>by
      rcases Nat.lt_or_ge i hi with h1 | h1
      ·have:=HPA.out.lo i h h1;omega
      ·rcases Nat.lt_or_ge hi i with h2 | h2
       ·have h3:=agd hrise hk h h2
        have h4:=HPA.out.hi hi hk (Nat.le_refl _)
        omega
       ·obtain rfl:i=hi:=by omega
        exact hp (HPT.out.symm.trans e)
     clear hp
     go_wp2_with fail
     go_quiet (fail)
     go_wp2
     refine bodyPost_ret (afm rfl rfl) rfl ?_
     exact⟨hi,false,HPA.out,rfl,.inr ⟨rfl,HN.out⟩,hb0.trans (ab9 wr _ _)⟩
   ·have d1:decide ((hi:Int)<(l.length:Int))=false:=by simp;omega
    have HN:Hid (∀i (h:i<l.length),(l[i]).point≠p):=fun i h e=>by
     have:=HPA.out.lo i h (by omega);omega
    go_wp2_with fail
    go_quiet (fail)
    go_wp2
    refine bodyPost_ret (afm rfl rfl) rfl ?_
    exact⟨hi,false,HPA.out,rfl,.inr ⟨rfl,HN.out⟩,hb0.trans (ab9 wr _ _)⟩
def pmAt (l:List PM)(p:Int):Option PM:=l.find? (fun m=>m.point==p)
def clsP (l:List PM)(p:Int):Int:=((pmAt l p).map PM.cls).getD 0
def aam (l:List PM)(p:Int):List Int:=((pmAt l p).map PM.parts).getD []
theorem pmAt_at {l:List PM}(h:(l.map PM.point).Pairwise (· < ·)){k:Nat}(hk:k<l.length){p:Int}(hp:(l[k]).point=p):pmAt l p=some l[k]:=by
 unfold pmAt
 rw[List.find?_eq_some_iff_getElem]
 refine⟨by simpa using hp,k,hk,rfl,fun j hj=> ?_⟩
 have:=agd h (by omega) hk hj
 simp
 omega
theorem pmAt_no {l:List PM}{p:Int}(h: ∀i (h:i<l.length),(l[i]).point≠p):pmAt l p=none:=by
 unfold pmAt
 rw[List.find?_eq_none]
 intro x hx
 obtain⟨i,hi,rfl⟩:=List.mem_iff_getElem.1 hx
 simpa using h i hi
theorem mark_results {tmps:Array Value}{w:World}{h:Nat}{x y z:Value}(hb:Blk w h 120 #[x,y,z])(t2:tmps[4]?.getD undef=.pointer (some ⟨h,0,none⟩)):
  (results Tryz.f103 tmps).run Tryz.prog w=.ok (.agg #[x,y,z]) w:=by
 have c0:w.cell? ⟨h,0,none⟩=some x:=hb.cell 0
 have c1:w.cell? ⟨h,1,none⟩=some y:=hb.cell 1
 have c2:w.cell? ⟨h,2,none⟩=some z:=hb.cell 2
 simp[results,Tryz.results103,go_sem,t2,c0,c1,c2]
def RMarkPost (l:List PM)(p:Int)(n₀:Nat)(w:World)(e:Ending)(w':World):Prop:=Below w.heap.size w w'∧ ∃pa pk pc,e=.returned (.agg #[.int .i64 p,.int .i64 (clsP l p),.slice pa pk pc])∧Ints n₀ w' (.slice pa pk pc) (aam l p)
set_option maxHeartbeats 4000000 in
set_option maxRecDepth 20000 in
theorem refMark_any (l:List PM)(hrise:(l.map PM.point).Pairwise (· < ·))(hll:l.length≤1048576)(v:Value)(p:Int)(n₀:Nat)(w:World)(hn₀:n₀≤w.heap.size)(hin:MIn n₀ w v l):
  Calls Tryz.prog 103 #[.agg #[v],.int .i64 p] w fun e w'=>RMarkPost l p n₀ w e w':=by
 obtain⟨a,cap,rfl⟩:=hin.val
 have hb0:=((Below.refl w.heap.size w).alloc (Nat.le_refl _) (.cells #[.slice a l.length cap] 28)).alloc (by simp) (.cells #[.int .i64 0,.int .i64 0,.slice none 0 0] 120)
 have hn1:Blk ((w.alloc (.cells #[.slice a l.length cap] 28)).alloc (.cells #[.int .i64 0,.int .i64 0,.slice none 0 0] 120)) w.heap.size 28 #[.slice a l.length cap]:=(Below.heap_alloc _ _ _ (by simp)).trans (Blk.new w 28 _)
 have hn2:Blk ((w.alloc (.cells #[.slice a l.length cap] 28)).alloc (.cells #[.int .i64 0,.int .i64 0,.slice none 0 0] 120)) (w.heap.size+1) 120 #[.int .i64 0,.int .i64 0,.slice none 0 0]:=by
  have:=Blk.new (w.alloc (.cells #[.slice a l.length cap] 28)) 120 #[.int .i64 0,.int .i64 0,.slice none 0 0]
  simpa using this
 have hin0:=hin.below hb0 hn₀
 go_enter Tryz.func103,Tryz.ntmps103
 go_upto_region 1 with fail
 generalize (w.alloc (.cells #[.slice a l.length cap] 28)).alloc (.cells #[.int .i64 0,.int .i64 0,.slice none 0 0] 120)=W at hb0 hn1 hn2 hin0⊢
 have e0:W.cell? ⟨w.heap.size,0,none⟩=some (.slice a l.length cap):=hn1.cell 0
 go_wp2_with fail
 refine(agh l hrise hll _ p n₀ W (Nat.le_trans hn₀ hb0.size) hin0).mono ?_
 rintro e w1 ⟨k,bb,hpa,rfl,hb,hb1⟩
 have hr1:=hn2.below hb1 hn2.lt
 have hd1:=hn1.below hb1 hn1.lt
 have e1:w1.cell? ⟨w.heap.size,0,none⟩=some (.slice a l.length cap):=hd1.cell 0
 have hbw:=hb0.trans (hb1.mono hb0.size)
 have hin1:=hin0.below hb1 (Nat.le_trans hn₀ hb0.size)
 obtain⟨⟨r0,r1,r2⟩,rz0,rz1,rz2⟩:=abo hr1
 clear e0 hn1 hn2 hin0 hpa
 rcases hb with ⟨rfl,hk,hp⟩ | ⟨rfl,hno⟩
 ·have HPM:Hid (pmAt l p=some l[k]):=pmAt_at hrise hk hp
  obtain⟨b,off,hao,pa,pk,pc,c0,c1,c2,hpi⟩:=hin1.at hk
  subst hao
  rw[hp] at c0
  have HC:Hid (clsP l p=(l[k]).cls∧aam l p=(l[k]).parts):=by
   show _∧_
   unfold clsP aam
   rw[HPM.out]
   exact⟨rfl,rfl⟩
  clear HPM hp
  generalize l[k]=mm at c0 c1 c2 hpi HC
  go_wp2_with fail
  refine bodyPost_ret (mark_results (hr1.set3 _ _ _) rfl) rfl ?_
  refine⟨hbw.trans (abb (show w.heap.size≤w.heap.size+1 by omega)),pa,pk,pc,by rw[HC.out.1],?_⟩
  rw[HC.out.2]
  exact hpi.below (abb (show w.heap.size≤w.heap.size+1 by omega)) hn₀
 ·have HPM:=pmAt_no hno
  have HC:Hid (clsP l p=0∧aam l p=[]):=by
   show _∧_
   unfold clsP aam
   rw[HPM]
   exact⟨rfl,rfl⟩
  clear HPM hno
  go_wp2_with fail
  refine bodyPost_ret (mark_results (hr1.set3 _ _ _) rfl) rfl ?_
  refine⟨hbw.trans (abb (show w.heap.size≤w.heap.size+1 by omega)),none,0,0,by rw[HC.out.1],?_⟩
  rw[HC.out.2]
  exact .inl ⟨_,_,rfl,rfl⟩
end Go.Proofs.YtpfkoldfbecdlaaGreatDoor
namespace Go.Vf
def whF (G:Int→List Int)(lim:Nat):Nat→List Int→Int→List Int
 | 0,out,p=>if lim<out.length then out else out++[p]
 | k+1,out,p=>if lim<out.length then out else if G p=[] then out++[p] else (G p).foldl (fun o q=>whF G lim k o q) out
theorem foldl_stop (G:Int→List Int)(lim k:Nat)(h: ∀out p,lim<out.length→whF G lim k out p=out): ∀(l:List Int) (out:List Int),lim<out.length→l.foldl (fun o q=>whF G lim k o q) out=out:=by
 intro l
 induction l with
 | nil=>intro out _;rfl
 | cons a r ih=>intro out ho;rw[List.foldl_cons,h out a ho];exact ih out ho
theorem whF_stop (G:Int→List Int)(lim k:Nat)(out:List Int)(p:Int)(h:lim<out.length):whF G lim k out p=out:=by
 cases k<;>simp[whF,h]
theorem whF_eq (G:Int→List Int)(lim:Nat): ∀(k:Nat) (out:List Int) (p:Int),out.length≤lim→whF G lim k out p=(out++wh G k p).take (lim+1):=by
 intro k
 induction k with
 | zero=>
  intro out p h
  rw[whF,if_neg (by omega),wh,List.take_of_length_le (by simp;omega)]
 | succ k ih=>
  intro out p h
  rw[whF,if_neg (by omega),wh]
  split
  ·rw[List.take_of_length_le (by simp;omega)]
  ·have key: ∀(l:List Int) (out:List Int),out.length≤lim→l.foldl (fun o q=>whF G lim k o q) out=(out++l.flatMap (wh G k)).take (lim+1):=by
    intro l
    induction l with
    | nil=>intro out ho;simp;rw[List.take_of_length_le (by omega)]
    | cons a r ihr=>
     intro out ho
     rw[List.foldl_cons,ih out a ho,List.flatMap_cons,←List.append_assoc]
     by_cases hl:(out++wh G k a).length≤lim
     ·rw[List.take_of_length_le (by omega),ihr _ hl]
     ·rw[foldl_stop G lim k (fun o q ho=>whF_stop G lim k o q ho) r _ (by rw[List.length_take];omega),List.take_append_of_le_length (l₁:=out++wh G k a) (by omega)]
   exact key (G p) out h
theorem agb (G:Int→List Int)(lim:Nat): ∀(k:Nat) (out:List Int) (p:Int),out.length≤(whF G lim k out p).length:=by
 intro k out p
 by_cases h:out.length≤lim
 ·rw[whF_eq G lim k out p h,List.length_take,List.length_append]
  omega
 ·rw[whF_stop G lim k out p (by omega)]
  exact Nat.le_refl _
def Dep (G:Int→List Int):Nat→Int→Prop
 | 0,p=>G p=[]
 | k+1,p=> ∀q∈G p,Dep G k q
theorem Dep.leaf {G:Int→List Int}{p:Int}(h:G p=[])(k:Nat):Dep G k p:=by
 cases k with
 | zero=>exact h
 | succ k=>intro q hq;rw[h] at hq;simp at hq
theorem Dep.of_topo {G:Int→List Int}{ord:List Int}(ht:Topo G ord): ∀(n:Nat) (pre:List Int) (x:Int) (post:List Int),pre.length≤n→ord=pre++x::post→Dep G n x:=by
 intro n
 induction n with
 | zero=>
  intro pre x post hn hs
  have hp:pre=[]:=List.length_eq_zero_iff.1 (by omega)
  cases hG:G x with
  | nil=>exact hG
  | cons a r=>have:=ht pre x post hs a (by rw[hG];simp);rw[hp] at this;simp at this
 | succ n ih=>
  intro pre x post hn hs q hq
  obtain⟨p1,p2,e⟩:=List.append_of_mem (ht pre x post hs q hq)
  have hl:p1.length+1≤pre.length:=by rw[e];simp
  exact ih p1 q (p2++x::post) (by omega) (by rw[hs,e];simp)
end Go.Vf
namespace Go.Proofs.YtpfkoldfbecdlaaGreatDoor
open Go.RowKit Go.Vf Go.Maps
structure Grew (w:World)(v:Value)(w':World)(v':Value):Prop where
 by_:w.grownBy w' v.ownBlock
 at_:v'.ownBlock=v.ownBlock∨ ∃g,v'.ownBlock=some g∧w.heap.size≤g
theorem Grew.trans {w w1 w2:World}{v v1 v2:Value}(h:Grew w v w1 v1)(k:Grew w1 v1 w2 v2):Grew w v w2 v2:=by
 refine⟨⟨k.by_.os.trans h.by_.os,k.by_.tape.trans h.by_.tape,k.by_.output.trans h.by_.output,Nat.le_trans h.by_.size k.by_.size,fun j hj hne=> ?_⟩,?_⟩
 ·refine(k.by_.block j (Nat.lt_of_lt_of_le hj h.by_.size) ?_).trans (h.by_.block j hj hne)
  rcases h.at_ with e | ⟨g,e,hg⟩
  ·rw[e];exact hne
  ·rw[e];intro e2;cases e2;omega
 ·rcases k.at_ with e | ⟨g,e,hg⟩
  ·rw[e];exact h.at_
  ·exact .inr ⟨g,e,Nat.le_trans h.by_.size hg⟩
theorem Grew.of_below {w w':World}(v:Value)(h:Below w.heap.size w w'):Grew w v w' v:=⟨⟨h.os,h.tape,h.output,h.size,fun j hj _=>h.block j hj⟩,.inl rfl⟩
theorem Grew.below {w w':World}{v v':Value}{base:Nat}(h:Grew w v w' v')(hb:base≤w.heap.size)(hv: ∀j,v.ownBlock=some j→base≤j):Below base w w':=(Below.refl base w).grown h.by_ hb hv
theorem Ints.back {n₀ n:Nat}{A B:World}(h:Below n A B)(hn:n₀≤n){v:Value}{zs:List Int}:Ints n₀ B v zs→Ints n₀ A v zs
 | .inl e=>.inl e
 | .inr ⟨b,off,cap,e,hb,hc⟩=>.inr ⟨b,off,cap,e,hb,fun j hj=>(h.cell (p:=⟨b,off+j,none⟩) (show b<n by omega)).symm.trans (hc j hj)⟩
theorem foldl_grows (G:Int→List Int)(lim k:Nat): ∀(l:List Int) (o:List Int),o.length≤(l.foldl (fun o q=>whF G lim k o q) o).length:=by
 intro l
 induction l with
 | nil=>intro o;exact Nat.le_refl _
 | cons a r ih=>intro o;rw[List.foldl_cons];exact Nat.le_trans (agb G lim k o a) (ih _)
theorem field36_2 (a b c:Value)(w:World):(Instr.field 120 (.agg #[a,b,c]) 2).run Tryz.prog w=.ok c w:=by kernel_rfl
theorem field36_1 (a b c:Value)(w:World):(Instr.field 120 (.agg #[a,b,c]) 1).run Tryz.prog w=.ok b w:=by kernel_rfl
def WholePost (base:Nat)(v:Value)(res:List Int)(w:World)(e:Ending)(w':World):Prop:= ∃a n c,e=.returned (.slice a n c)∧IOwn w' base (.slice a n c) res∧Grew w v w' (.slice a n c)
def WholeSays (l:List PM)(da:Option Addr)(dn dc n₀ lim k:Nat)(p:Int):Prop:= ∀(out:List Int) (v:Value) (base:Nat) (w:World),(whF (aam l) lim k out p).length≤1000000→n₀≤base→base≤w.heap.size→MIn n₀ w (.slice da dn dc) l→IOwn w base v out→
 Calls Tryz.prog 52 #[.agg #[.slice da dn dc],v,.int .i64 p,.int .i64 (lim:Int)] w fun e w'=>WholePost base v (whF (aam l) lim k out p) w e w'
set_option maxHeartbeats 4000000 in
set_option maxRecDepth 20000 in
theorem whole_step (l:List PM)(hrise:(l.map PM.point).Pairwise (· < ·))(hll:l.length≤1048576)(hpl: ∀p,(aam l p).length≤131072)(da:Option Addr)(dn dc n₀ lim:Nat)(_hlim:lim≤1073741824)(k:Nat)(p:Int)(hsy:ab5 p=false)(hdep': ∀q∈aam l p,WholeSays l da dn dc n₀ lim k q):WholeSays l da dn dc n₀ lim (k+1) p:=by
 intro out v base w hlen hn₀ hbase hin hown
 obtain⟨av,cv,rfl⟩:=hown.val
 have hb0:=(Below.refl w.heap.size w).alloc (Nat.le_refl _) (.cells #[.slice da dn dc] 28)
 have hbn:=Blk.new w 28 #[.slice da dn dc]
 have hgr:=Nat.le_trans (agb (aam l) lim (k+1) out p) hlen
 by_cases hlong:lim<out.length
 ·have HR:Hid (whF (aam l) lim (k+1) out p=out):=whF_stop _ _ _ _ _ hlong
  have hown0:IOwn (w.alloc (.cells #[.slice da dn dc] 28)) base (.slice av out.length cv) out:=World.ownsRow.alloc hown _
  go_enter Tryz.func52,Tryz.ntmps52
  go_wp2_with fail
  go_ret
  exact⟨_,_,_,rfl,by rw[HR.out];exact hown0,Grew.of_below _ hb0⟩
 ·have hS:=agc p (w.alloc (.cells #[.slice da dn dc] 28))
  rw[hsy] at hS
  have hM:=refMark_any l hrise hll (.slice da dn dc) p n₀ (w.alloc (.cells #[.slice da dn dc] 28)) (by simp;omega) (hin.below hb0 (by omega))
  have HR:Hid (whF (aam l) lim (k+1) out p=if aam l p=[] then out++[p] else (aam l p).foldl (fun o q=>whF (aam l) lim k o q) out):=by
   show _=_
   rw[whF,if_neg hlong]
  obtain⟨R,hR⟩: ∃R,whF (aam l) lim (k+1) out p=R:=⟨_,rfl⟩
  rw[hR] at HR hlen⊢
  clear hR
  have hown0:IOwn (w.alloc (.cells #[.slice da dn dc] 28)) base (.slice av out.length cv) out:=World.ownsRow.alloc hown _
  have e0:(w.alloc (.cells #[.slice da dn dc] 28)).cell? ⟨w.heap.size,0,none⟩=some (.slice da dn dc):=hbn.cell 0
  go_enter Tryz.func52,Tryz.ntmps52
  go_wp2_with fail
  refine hS.mono ?_
  rintro e w1 ⟨rfl,rfl⟩
  go_wp2_with fail
  refine hM.mono ?_
  rintro e w2 ⟨hb2,pa,pk,pc,rfl,hpi⟩
  have hfd:=field36_2 (.int .i64 p) (.int .i64 (clsP l p)) (.slice pa pk pc) w2
  have hb02:Below w.heap.size w w2:=hb0.trans (hb2.mono hb0.size)
  have hown2:IOwn w2 base (.slice av out.length cv) out:=aac hown0 hb2
  have hbn2:=hbn.below hb2 hbn.lt
  have hin2:=hin.below hb02 (by omega)
  have hpk:pk=(aam l p).length:=by obtain⟨_,_,e⟩:=hpi.val;cases e;rfl
  have HPK:Hid (pk=(aam l p).length):=hpk
  have hpl':=hpl p
  have hpkl:pk≤131072:=by omega
  clear hpk hS hM hown0 e0 hbn hb0 hb2
  generalize aam l p=ps at hpi hdep' HR HPK
  have hs2:base≤w2.heap.size:=Nat.le_trans hbase hb02.size
  by_cases h0:pk=0
  ·have hps:ps=[]:=List.eq_nil_of_length_eq_zero (by rw[←HPK.out];exact h0)
   have HR2:Hid (R=out++[p]):=by show _=_;rw[HR.out,if_pos hps]
   have hpk0:((pk:Int)==0)=true:=by simp[h0]
   have hown2':IOwn (w2.alloc (.cells #[.int .i64 p] 3)) base (.slice av out.length cv) out:=World.ownsRow.alloc hown2 _
   have HN2:Hid (∀i,i<([p]:List Int).length→(w2.alloc (.cells #[.int .i64 p] 3)).cell? ((⟨w2.heap.size,0,none⟩:Addr).add i)=some (.int .i64 (([p]:List Int)[i]?.getD 0))):=fun i hi=>by
    have:i=0:=by simp at hi;omega
    subst this
    exact(Blk.new w2 3 #[.int .i64 p]).cell 0
   have hsum:out.length+([p]:List Int).length≤1099511627776:=by simp;omega
   have hsz2:base≤(w2.alloc (.cells #[.int .i64 p] 3)).heap.size:=by simp;omega
   clear h0
   go_wp2_with (first | (at_builtin;refine aaf rfl _ _ rfl base _ out rfl hown2' [p] ⟨w2.heap.size,0,none⟩ _ rfl HN2.out hsum hsz2 ?_;intro a7 c7 w7 hown7 hgr7 hnil7 hat7))
   go_ret
   refine⟨a7,_,c7,rfl,by rw[HR2.out];exact hown7,(Grew.of_below _ (hb02.alloc hb02.size _)).trans ⟨hgr7,?_⟩⟩
   rcases hat7 with e | e
   ·exact .inl e
   ·exact .inr ⟨_,e,Nat.le_refl _⟩
  ·have hps:ps≠ []:=fun e=>h0 (by rw[HPK.out,e];rfl)
   have HR2:Hid (R=ps.foldl (fun o q=>whF (aam l) lim k o q) out):=by show _=_;rw[HR.out,if_neg hps]
   have hpk0:((pk:Int)==0)=false:=by simp[h0]
   have HBW:Hid (w.heap.size<w2.heap.size):=hbn2.lt
   clear HR
   go_wp2_with fail
   go_loopw [1,11] (fun x i wr=> ∃(j:Nat) (o:List Int) (oa:Option Addr) (oc:Nat),j≤pk∧i=.int .i64 j∧x=.slice oa o.length oc∧IOwn wr base (.slice oa o.length oc) o∧Hid (R=(ps.drop j).foldl (fun o q=>whF (aam l) lim k o q) o)∧Grew w (.slice av out.length cv) wr (.slice oa o.length oc)∧Blk wr w.heap.size 28 #[.slice da dn dc]∧base≤wr.heap.size) (fun _ i _=>pk-(intOf i).toNat)
   case atStart=>exact⟨0,out,av,cv,by omega,rfl,rfl,hown2,by simpa using HR2,Grew.of_below _ hb02,hbn2,hs2⟩
   case round=>
    obtain⟨j,o,oa,oc,hj,rfl,rfl,hownr,HJ,hgrew,hbox,hszr⟩:=hrel
    have hbelr:Below base w wr:=hgrew.below hbase (fun i hi=>(aah hown hi).1)
    by_cases hlt:j<pk
    ·have hltp:j<ps.length:=by rw[←HPK.out];exact hlt
     have hpr:Ints n₀ wr (.slice pa pk pc) ps:=(hpi.back hb02 (by omega)).below hbelr hn₀
     obtain⟨b,off,hao,hnk,hblt,hcell⟩:=hpr.cell hps
     subst hao
     have hcj:=hcell j hltp
     rw[show ps[j]?.getD 0=ps[j] by simp[List.getElem?_eq_getElem hltp]] at hcj
     have hd:ps.drop j=ps[j]::ps.drop (j+1):=List.drop_eq_getElem_cons hltp
     have HJ2:Hid (R=(ps.drop (j+1)).foldl (fun o q=>whF (aam l) lim k o q) (whF (aam l) lim k o ps[j])):=by
      show _=_
      rw[HJ.out,hd,List.foldl_cons]
     have hqd:=hdep' _ (List.getElem_mem hltp)
     generalize ps[j]=q at hcj HJ2 hqd
     have hql:(whF (aam l) lim k o q).length≤1000000:=by
      have:=foldl_grows (aam l) lim k (ps.drop (j+1)) (whF (aam l) lim k o q)
      rw[←HJ2.out] at this
      omega
     have HIH:Hid (Calls Tryz.prog 52 #[.agg #[.slice da dn dc],.slice oa o.length oc,.int .i64 q,.int .i64 (lim:Int)] wr.drew fun e w'=>WholePost base (.slice oa o.length oc) (whF (aam l) lim k o q) wr.drew e w'):=hqd o (.slice oa o.length oc) base wr.drew hql hn₀ hszr ((hin.below hbelr hn₀).below ((Below.refl base wr).drew) hn₀) hownr
     have s0:wr.drew.cell? ⟨w.heap.size,0,none⟩=some (.slice da dn dc)∧wr.drew.cell? ⟨b,off+j,none⟩=some (.int .i64 q):=⟨hbox.cell 0,hcj⟩
     have hbb:b<base:=by omega
     have HKX:Hid (∀(x:World) (v':Value),Grew wr.drew (.slice oa o.length oc) x v'→Blk x w.heap.size 28 #[.slice da dn dc]∧x.cell? ⟨b,off+j,none⟩=some (.int .i64 q)):=fun x v' hx=>⟨(hx.by_.block w.heap.size hbox.lt (abh hownr hbox (by decide))).trans hbox,((hx.below (base:=base) hszr (fun i hi=>(aah hownr hi).1)).cell (p:=⟨b,off+j,none⟩) hbb).trans hcj⟩
     have hgd:Grew wr (.slice oa o.length oc) wr.drew (.slice oa o.length oc):=Grew.of_below _ ((Below.refl _ wr).drew)
     clear hcell hnk hpr hd HJ hcj
     go_upto_region 16 with fail
     go_region_held (fun x=>x.cell? ⟨w.heap.size,0,none⟩=some (.slice da dn dc)∧x.cell? ⟨b,off+j,none⟩=some (.int .i64 q)) (first | exact s0 | assumption | exact⟨hbox8.cell 0,hcell8⟩) ((go_at_call 52;refine HIH.out.mono ?_;rintro e w8 ⟨a8,n8,c8,rfl,hown8,hg8⟩;obtain⟨hbox8,hcell8⟩:=HKX.out w8 _ hg8))
     have hs8:base≤w8.heap.size:=Nat.le_trans hszr hg8.by_.size
     have HG8:Hid (Grew w (.slice av out.length cv) w8 (.slice a8 n8 c8)):=(hgrew.trans hgd).trans hg8
     have HO8:Hid (IOwn w8 base (.slice a8 n8 c8) (whF (aam l) lim k o q)):=hown8
     have HB8:Hid (Blk w8 w.heap.size 28 #[.slice da dn dc]):=hbox8
     clear hg8 hown8 hbox8 hcell8 HKX HIH s0
     go_wp2_with fail
     go_roundw
     case rel=>
      have hn8:n8=(whF (aam l) lim k o q).length:=by obtain⟨_,_,e⟩:=HO8.out.val;cases e;rfl
      subst hn8
      exact⟨j+1,whF (aam l) lim k o q,a8,c8,by omega,by go_num,rfl,HO8.out,HJ2,HG8.out,HB8.out,hs8⟩
     case measure=>simp only[intOf];omega
    ·have HE:Hid (R=o):=by
      show _=_
      rw[HJ.out,List.drop_of_length_le (by rw[←HPK.out];omega)]
      rfl
     go_wp2_with fail
     go_ret
     exact⟨_,_,_,rfl,by rw[HE.out];exact hownr,hgrew⟩
theorem refWhole_any (l:List PM)(hrise:(l.map PM.point).Pairwise (· < ·))(hll:l.length≤1048576)(hns: ∀p,∀q∈aam l p,ab5 q=false)(hpl: ∀p,(aam l p).length≤131072)(da:Option Addr)(dn dc n₀ lim:Nat)(hlim:lim≤1073741824):
  ∀(k:Nat) (p:Int),ab5 p=false→Dep (aam l) k p→WholeSays l da dn dc n₀ lim k p:=by
 intro k
 induction k with
 | zero=>
  intro p hsy hd
  have h1:=whole_step l hrise hll hpl da dn dc n₀ lim hlim 0 p hsy (fun q hq=>by rw[show aam l p=[] from hd] at hq;simp at hq)
  intro out v base w
  have e:whF (aam l) lim 1 out p=whF (aam l) lim 0 out p:=by simp[whF,show aam l p=[] from hd]
  have h2:=h1 out v base w
  rwa [e] at h2
 | succ k ih=>
  intro p hsy hd
  exact whole_step l hrise hll hpl da dn dc n₀ lim hlim k p hsy (fun q hq=>ih q (hns p q hq) (hd q hq))
end Go.Proofs.YtpfkoldfbecdlaaGreatDoor
