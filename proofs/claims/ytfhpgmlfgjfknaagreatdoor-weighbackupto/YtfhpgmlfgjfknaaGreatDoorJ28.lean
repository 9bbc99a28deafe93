/- Contracts and lemmas (nothing is claimed here). -/
import Derived.Test.YtfhpgmlfgjfknaaGreatDoorJ27
import Derived.Test.YtfhpgmlfgjfknaaGreatDoorRows
namespace Go.Proofs.YtfhpgmlfgjfknaaGreatDoor
open Go.RowKit Go.Vf Go.Maps
structure Kg (n₁ g:Nat)(W W':World):Prop where
 size:W.heap.size≤W'.heap.size
 block: ∀k,k<n₁→k≠g→W'.heap[k]? =W.heap[k]?
theorem Kg.trans {n₁ g:Nat}{a b c:World}(h:Kg n₁ g a b)(k:Kg n₁ g b c):Kg n₁ g a c:=⟨Nat.le_trans h.size k.size,fun i hi h1=>(k.block i hi h1).trans (h.block i hi h1)⟩
theorem Kg.below {n₁ g:Nat}{W W':World}(h:Below n₁ W W'):Kg n₁ g W W':=⟨h.size,fun k hk _=>h.block k hk⟩
section
variable {w₁ W W':World}{bd T B g off cap n₁:Nat}{ps pre rest:List (List Int)}{p q:List Int}
theorem MWk.goN (h:MWk w₁ bd T B g off cap ps W)(hb:Below n₁ W W')(hB:B<n₁)(hg:g<n₁)(hw:w₁.heap.size≤n₁):MWk w₁ bd T B g off cap ps W':=by
 obtain⟨cs,hc⟩:=h.row
 exact⟨h.below.trans (hb.mono hw),h.blk.below hb hB,h.cap,h.lowB,h.lowg,⟨cs,hc.below hb hg⟩,h.pcs.same (hb.block g hg) (fun k hk=>hb.block k (Nat.lt_of_lt_of_le hk hw))⟩
theorem MWk.pieceA (h:MWk w₁ bd T B g off cap (pre++p::rest) W): ∃b o c,W.cell? ⟨g,off+pre.length,none⟩=some (.slice (some ⟨b,o,none⟩) p.length c)∧p.length≤c∧Pc w₁.heap.size W b o p:=by
 have:=h.piece (j:=pre.length) (by simp)
 simpa using this
theorem MWk.setA (h:MWk w₁ bd T B g off cap (pre++p::rest) W){b o c:Nat}(hq:Pc w₁.heap.size W b o q)(hqc:q.length≤c):MWk w₁ bd T B g off cap (pre++q::rest) (W.setCell ⟨g,off+pre.length,none⟩ (.slice (some ⟨b,o,none⟩) q.length c))∧Kg n₁ g W (W.setCell ⟨g,off+pre.length,none⟩ (.slice (some ⟨b,o,none⟩) q.length c)):=by
 have:=(h.set (i:=pre.length) (by simp) hq hqc).1
 rw[List.set_append_right _ _ (Nat.le_refl _),Nat.sub_self,List.set_cons_zero] at this
 exact⟨this,by simp[World.setCell],fun k _ h1=>Below.heap_setCell W _ _ k h1⟩
end
section
variable {cls:Int→Int}{fnd:List Int→Bool}{m:Nat}
theorem axh (row:List Int)(rest:List (List Int)):aaz cls fnd m row ([]::rest)=((aaz cls fnd m row rest).1,[]::(aaz cls fnd m row rest).2):=by simp[aaz,aa6]
theorem alt {row:List Int}{y:Int}(ys:List Int)(rest:List (List Int))(h:row.length=m∨cls y=0):aaz cls fnd m row ((y::ys)::rest)=(row,(y::ys)::rest):=by
 have:aa6 cls fnd m row (y::ys)=(row,y::ys,true):=by unfold aa6;rw[if_pos h]
 simp[aaz,this]
theorem a0e {row:List Int}{y:Int}(ys:List Int)(rest:List (List Int))(h: ¬(row.length=m∨cls y=0))(hf:fnd (row++[y])=false):aaz cls fnd m row ((y::ys)::rest)=((aaz cls fnd m row rest).1,(y::ys)::(aaz cls fnd m row rest).2):=by
 have:aa6 cls fnd m row (y::ys)=(row,y::ys,false):=by unfold aa6;rw[if_neg h,hf];try rfl
 simp[aaz,this]
theorem axg {row:List Int}{y:Int}(ys:List Int)(rest:List (List Int))(h: ¬(row.length=m∨cls y=0))(hf:fnd (row++[y])=true):aaz cls fnd m row ((y::ys)::rest)=aaz cls fnd m (row++[y]) (ys::rest):=by
 have:aa6 cls fnd m row (y::ys)=aa6 cls fnd m (row++[y]) ys:=by conv=>lhs;unfold aa6;rw[if_neg h,if_pos hf]
 simp only[aaz,this]
end
set_option maxHeartbeats 8000000 in
set_option maxRecDepth 20000 in
theorem azp {w₁:World}{bd T B g off cap me ml n₁:Nat}{val:List Int→Value}{L:List Mk}{F:Int→List Int}{E:List Ent}{x:Int}{r:List Int}{ps:List (List Int)}{W:World}{gr kr cr:Nat}
  (hk:MWk w₁ bd T B g off cap ps W) (hd:DataAt w₁ bd L F) (ht:TabAt w₁ T me ml val E) (hx:InI x) (hps: ∀p∈ps,∀q∈p,InI q)
  (hl:ps.length≤4611686018427387904) (hpl: ∀p∈ps,p.length≤4611686018427387904) (hm8:ab0 E x≤8) (hr8:(x::r).length≤ab0 E x) (hn₁:B<n₁∧g<n₁∧n₁≤W.heap.size∧w₁.heap.size≤n₁) (hown:IOwn W n₁ (.slice (some ⟨gr,0,none⟩) kr cr) (x::r)):
  Calls Tryz.prog 177 #[.pointer (some ⟨B,0,none⟩),.slice (some ⟨gr,0,none⟩) kr cr] W fun e W'=> ∃g2 k2 c2,e=.returned (.slice (some ⟨g2,0,none⟩) k2 c2)∧IOwn W' n₁ (.slice (some ⟨g2,0,none⟩) k2 c2) (aaz (aaa L) (ach E) (ab0 E x) (x::r) ps).1∧MWk w₁ bd T B g off cap (aaz (aaa L) (ach E) (ab0 E x) (x::r) ps).2 W'∧Kg n₁ g W W':=by
 obtain⟨c0,c1,c2⟩:=hk.cells
 obtain⟨hBn,hgn,hnW,hwn⟩:=hn₁
 have HLo:Hid (∀n,Calls Tryz.prog 209 #[.pointer (some ⟨T,0,none⟩),.int .i64 x] (W.drewN n) fun e w'=>e=.returned (.int .i64 (ab0 E x:Int))∧W.drewN n=w'):=fun n=>alk T me ml val E x hx _ (ht.below (hk.below.trans ((ac3 W n).mono hk.below.size)))
 have hlo1:=HLo.out 1
 rw[show W.drewN 1=W.drew from rfl] at hlo1
 have hr0:W.cell? ⟨gr,0,none⟩=some (.int .i64 x):=by
  rcases hown.form with ⟨e,_⟩ | ⟨g',cp,e,_,_,_,hc,_⟩
  ·cases e
  ·cases e;simpa using hc 0 (by simp)
 have hkr:=hown.form1
 simp only[List.length_cons] at hkr
 generalize hJ:aaz (aaa L) (ach E) (ab0 E x) (x::r) ps=J
 have HJ:Hid (((aaz (aaa L) (ach E) (ab0 E x) (x::r) ps).1,[]++(aaz (aaa L) (ach E) (ab0 E x) (x::r) ps).2)=J):=by show _=_;rw[hJ];rfl
 generalize hmm:ab0 E x=m at*
 have HOWN:Aside _:=hown
 have hkr1:1≤kr:=by omega
 have HKR:Hid (kr=r.length+1):=hkr
 clear hJ hown hkr HLo hmm
 go_enter Tryz.func177,Tryz.ntmps177
 go_wp2
 go_step3
 go_upto_region 1 with fail
 go_cut [5] from 13 to 20 (fun v wx=>v=.int .i64 m∧wx=W.drew)
 case first=>
  go_region_with (first | (go_at_call 209;with_reducible refine hlo1.mono ?_;rintro e w2 ⟨rfl,rfl⟩))
  all_goals
   go_wp2_with fail
   go_meet
   exact⟨rfl,rfl⟩
 case rest=>
  obtain⟨rfl,rfl⟩:=hcut
  have hbd:Below W.heap.size W W.drew:=(Below.refl _ W).drew
  have hk1:=hk.go hbd
  have HOWN1:Aside (IOwn W.drew n₁ (.slice (some ⟨gr,0,none⟩) kr cr) (x::r)):=aad HOWN.out hbd
  have hkg1:Kg n₁ g W W.drew:=Kg.below (hbd.mono hnW)
  have hnW1:n₁≤W.drew.heap.size:=hnW
  generalize W.drew=W1 at hk1 HOWN1 hkg1 hnW1⊢
  clear hlo1 hr0 c0 c1 c2 hbd HOWN hk
  obtain⟨c0,c1,c2⟩:=hk1.cells
  go_wp2_with fail
  go_step3
  go_wp2_with fail
  go_loopw [1,26] (fun v iv wr=> ∃(pre suf:List (List Int)) (row:List Int) (g2 k2 c2:Nat),iv=.int .i64 pre.length∧v=.slice (some ⟨g2,0,none⟩) k2 c2∧Hid (pre.length+suf.length=ps.length)∧Aside (IOwn wr n₁ (.slice (some ⟨g2,0,none⟩) k2 c2) (x::row))∧Hid (((aaz (aaa L) (ach E) m (x::row) suf).1,pre++(aaz (aaa L) (ach E) m (x::row) suf).2)=J)∧row.length+1≤m∧Hid (∀p∈suf,(∀q∈p,InI q)∧p.length≤4611686018427387904)∧MWk w₁ bd T B g off cap (pre++suf) wr∧Kg n₁ g W wr∧n₁≤wr.heap.size) (fun _ iv _=>ps.length-(intOf iv).toNat)
  case atStart=>exact⟨[],ps,r,gr,kr,cr,rfl,rfl,by show _=_;simp,HOWN1,HJ,hr8,fun p hp=>⟨hps p hp,hpl p hp⟩,hk1,hkg1,hnW1⟩
  case round=>
   clear HOWN1 hk1 hkg1 hnW1 HJ c0 c1 c2 hkr1 HKR
   obtain⟨pre,suf,row,g2,k2,cc2,rfl,rfl,HLN,HOWN,HJ,hrow,HP,hk,hkg,hnr⟩:=hrel
   cases suf with
   | nil=>
    have hln:pre.length=ps.length:=by have:=HLN.out;simpa using this
    have hfin:IOwn wr n₁ (.slice (some ⟨g2,0,none⟩) k2 cc2) J.1∧MWk w₁ bd T B g off cap J.2 wr:=by
     rw[←HJ.out]
     exact⟨HOWN.out,by simpa[aaz] using hk⟩
    have hlt: ¬((pre.length:Int)<(ps.length:Int)):=by omega
    clear HJ hln
    go_wp2_with fail
    try rw[Exit.noGoto_ret]
    go_ret
    exact⟨_,_,_,rfl,hfin.1,hfin.2,hkg⟩
   | cons p rest=>
    have hln:pre.length<ps.length:=by have:=HLN.out;simp at this;omega
    have hlt:(pre.length:Int)<(ps.length:Int):=by omega
    obtain⟨c0,c1,c2⟩:=hk.cells
    obtain⟨pb,po,pc,d0,d1,d2⟩:=hk.pieceA
    have hpp:=HP.out p (by simp)
    have hpI:=hpp.1
    have hpL:=hpp.2
    have HP2:Hid (∀p∈rest,(∀q∈p,InI q)∧p.length≤4611686018427387904):=fun q hq=>HP.out q (by simp[hq])
    have HD2:Aside (∀W',Below w₁.heap.size w₁ W'→Pc w₁.heap.size W' pb po p):=fun W' h=>d2.same (fun k hk'=>(h.block k hk').trans (hk.below.block k hk').symm)
    have HL2:Hid (pre.length+1+rest.length=ps.length):=by have:=HLN.out;simp at this;show _=_;omega
    have hps1:ps.length≤4611686018427387904:=hl
    have hps2:(pre++p::rest).length=ps.length:=by have:=HL2.out;simp;omega
    rw[hps2] at c2
    clear HP HLN hpp hps2
    go_wp2_with fail
    go_loopw [1,33] (fun v jv wr=> ∃(j:Nat) (row:List Int) (g2 k2 c2:Nat),j≤p.length∧jv=.int .i64 j∧v=.slice (some ⟨g2,0,none⟩) k2 c2∧Aside (IOwn wr n₁ (.slice (some ⟨g2,0,none⟩) k2 c2) (x::row))∧Hid (((aaz (aaa L) (ach E) m (x::row) (p.drop j::rest)).1,pre++(aaz (aaa L) (ach E) m (x::row) (p.drop j::rest)).2)=J)∧row.length+1≤m∧MWk w₁ bd T B g off cap (pre++p.drop j::rest) wr∧Kg n₁ g W wr∧n₁≤wr.heap.size) (fun _ jv _=>p.length-(intOf jv).toNat)
    case atStart=>exact⟨0,row,g2,k2,cc2,by omega,rfl,rfl,HOWN,HJ,hrow,hk,hkg,hnr⟩
    case round=>
     clear HOWN HJ hrow hk hkg hnr c0 c1 c2 d0 d2
     obtain⟨j,row,g2,k2,cc2,hj,rfl,rfl,HOWN,HJ,hrow,hk,hkg,hnr⟩:=hrel
     by_cases hjl:j<p.length
     ·have hdr:p.drop j=p[j]::p.drop (j+1):=List.drop_eq_getElem_cons hjl
      have hcj:=(HD2.out wr hk.below).2 j hjl
      rw[show p[j]?.getD 0=p[j] by simp[List.getElem?_eq_getElem hjl]] at hcj
      have hyI:=hpI _ (List.getElem_mem hjl)
      have HPJ:Hid (p.drop j=p[j]::p.drop (j+1)):=hdr
      generalize p[j]=y at hcj hyI HPJ
      have hk2:=HOWN.out.form1
      simp only[List.length_cons] at hk2
      subst hk2
      obtain⟨c0,c1,c2⟩:=hk.cells
      obtain⟨pb2,po2,pc2,d0,d1',d2⟩:=hk.pieceA
      have hcls:=ajd bd L F y wr hyI (hd.below hk.below)
      by_cases hfull:row.length+1=m
      ·have hf2:(((row.length:Int)+1)==(m:Int))=true:=by simp;omega
       have hfin:IOwn wr n₁ (.slice (some ⟨g2,0,none⟩) (row.length+1) cc2) J.1∧MWk w₁ bd T B g off cap J.2 wr:=by
        rw[←HJ.out,HPJ.out,alt _ _ (.inl (by simpa using hfull)),←HPJ.out]
        exact⟨HOWN.out,hk⟩
       clear HJ HPJ hfull
       go_wp2_with fail
       try rw[Exit.noGoto_ret]
       go_ret
       exact⟨_,_,_,rfl,hfin.1,hfin.2,hkg⟩
      ·have hf2:(((row.length:Int)+1)==(m:Int))=false:=by simp;omega
       by_cases hc0:aaa L y=0
       ·have hfin:IOwn wr n₁ (.slice (some ⟨g2,0,none⟩) (row.length+1) cc2) J.1∧MWk w₁ bd T B g off cap J.2 wr:=by
         rw[←HJ.out,HPJ.out,alt _ _ (.inr hc0),←HPJ.out]
         exact⟨HOWN.out,hk⟩
        rw[hc0] at hcls
        clear HJ HPJ hfull hc0
        go_wp2_with fail
        refine hcls.mono ?_
        rintro e w3 ⟨rfl,rfl⟩
        go_wp2_with fail
        try rw[Exit.noGoto_ret]
        go_ret
        exact⟨_,_,_,rfl,hfin.1,hfin.2,hkg⟩
       ·have hnot: ¬((x::row).length=m∨aaa L y=0):=by simp;exact⟨hfull,hc0⟩
        have HNOT:Hid _:=hnot
        have hc1:(aaa L y==0)=false:=by simpa using hc0
        generalize aaa L y=cy at hcls hc1
        clear hnot hfull hc0
        go_wp2_with fail
        refine hcls.mono ?_
        rintro e w3 ⟨rfl,rfl⟩
        have hbA:=(Below.refl wr.heap.size wr).alloc (Nat.le_refl _) (.cells #[.int .i64 y] 3)
        have hnb:=Blk.new wr 3 #[.int .i64 y]
        have HOWN2:Aside (IOwn (wr.alloc (.cells #[.int .i64 y] 3)) n₁ (.slice (some ⟨g2,0,none⟩) (row.length+1) cc2) (x::row)):=aad HOWN.out hbA
        have hszA:n₁≤(wr.alloc (.cells #[.int .i64 y] 3)).heap.size:=Nat.le_trans hnr hbA.size
        have hlx:(x::row).length≤1099511627776:=by simp;omega
        go_upto_region 10 with (first | (at_builtin;refine aff rfl _ _ rfl n₁ _ (x::row) rfl HOWN2.out y ⟨wr.heap.size,0,none⟩ _ rfl (hnb.cell 0) hlx hszA ?_;intro v4 w4 hown4 hold4 hgr4;obtain⟨a4,c4,rfl⟩:=hown4.val;obtain⟨g4,rfl,hg4,hcap4⟩:=hown4.some_of (by simp)))
        have hb4:Below n₁ wr w4:=((Below.refl n₁ wr).alloc hnr _).grown hgr4 hszA (fun j hj=>(aan HOWN2.out hj).1)
        have hk4:=hk.goN hb4 hBn hgn hwn
        have hkg4:Kg n₁ g W w4:=hkg.trans (Kg.below hb4)
        have hn4:n₁≤w4.heap.size:=Nat.le_trans hnr hb4.size
        have HO4:Aside (IOwn w4 n₁ (.slice (some ⟨g4,0,none⟩) (x::row++[y]).length c4) (x::row++[y])):=hown4
        have HOL:Aside (IOwn w4 n₁ (.slice (some ⟨g2,0,none⟩) (row.length+1) cc2) (x::row)):=hold4
        clear hown4 hold4 hgr4 hcap4 hbA hnb HOWN2 hszA hlx HOWN hcls hc1 c0 c1 c2 d0 d1' d2
        obtain⟨c0,c1,c2⟩:=hk4.cells
        have hfd:=a5h T me ml _ val E _ (x::row++[y]) w4 (ht.below hk4.below) (Nat.le_refl _) (IOwn.ints HO4.out) (by simp;omega)
        generalize hfb:ach E (x::row++[y])=fb at hfd
        have HFB:Hid (ach E ((x::row)++[y])=fb):=hfb
        have hl4:(x::row++[y]).length=row.length+1+1:=by simp
        rw[hl4] at hfd HO4
        clear hfb hl4
        go_wp2_with fail
        refine hfd.mono ?_
        rintro e w5 ⟨u5,rfl,hb5⟩
        have hb5':Below n₁ w4 w5:=hb5.mono hn4
        have hk5:=hk4.goN hb5' hBn hgn hwn
        have hkg5:Kg n₁ g W w5:=hkg4.trans (Kg.below hb5')
        have hn5:n₁≤w5.heap.size:=Nat.le_trans hn4 hb5.size
        have HO5:Aside (IOwn w5 n₁ (.slice (some ⟨g4,0,none⟩) (row.length+1+1) c4) (x::row++[y])):=aad HO4.out hb5
        have HOL5:Aside (IOwn w5 n₁ (.slice (some ⟨g2,0,none⟩) (row.length+1) cc2) (x::row)):=aad HOL.out hb5
        clear hfd HO4 HOL hk4 hkg4 hn4 hb4 hb5 hb5' hk hkg hnr c0 c1 c2
        cases fb with
        | false=>
         have HJ2:Hid (((aaz (aaa L) (ach E) m (x::row) rest).1,(pre++[p.drop j])++(aaz (aaa L) (ach E) m (x::row) rest).2)=J):=by
          show _=_
          rw[←HJ.out,HPJ.out,a0e _ _ HNOT.out HFB.out]
          simp
         have hk':MWk w₁ bd T B g off cap ((pre++[p.drop j])++rest) w5:=by simpa using hk5
         clear HJ hk5 HPJ HNOT HFB
         go_wp2_with fail
         go_roundw
         case rel=>exact⟨pre++[p.drop j],rest,row,g2,row.length+1,cc2,by simp,by simp,by have:=HL2.out;show _=_;simp;omega,HOL5,HJ2,hrow,HP2,hk',hkg5,hn5⟩
         case measure=>simp only[intOf];omega
        | true=>
         have HJ2:Hid (((aaz (aaa L) (ach E) m (x::(row++[y])) (p.drop (j+1)::rest)).1,pre++(aaz (aaa L) (ach E) m (x::(row++[y])) (p.drop (j+1)::rest)).2)=J):=by
          show _=_
          rw[←HJ.out,HPJ.out,axg _ _ HNOT.out HFB.out]
          try rfl
         have hrow2:(row++[y]).length+1≤m:=by
          have:=HNOT.out
          simp at this⊢
          omega
         obtain⟨o2,hif,ho2⟩: ∃o2,(if pc=j+1 then some (⟨pb,po,none⟩:Addr) else some ⟨pb,po+(j+1),none⟩)=some ⟨pb,o2,none⟩∧(j+1<p.length→o2=po+(j+1)):=by
          by_cases h:pc=j+1
          ·exact⟨po,by rw[if_pos h],fun h2=>by omega⟩
          ·exact⟨po+(j+1),by rw[if_neg h],fun _=>rfl⟩
         obtain⟨y1,y2⟩:=hk5.setA (n₁:=n₁) (q:=p.drop (j+1)) (b:=pb) (o:=o2) (c:=pc-(j+1)) ((HD2.out w5 hk5.below).drop ho2) (by rw[List.length_drop];omega)
         rw[List.length_drop] at y1 y2
         have y1':=y1.go (Below.refl _ _).drew
         have y2':=(hkg5.trans y2).trans (Kg.below ((Below.refl n₁ _).drew))
         have hn6:n₁≤((w5.setCell ⟨g,off+pre.length,none⟩ (.slice (some ⟨pb,o2,none⟩) (p.length-(j+1)) (pc-(j+1)))).drew).heap.size:=by simp[World.setCell,World.drew];exact hn5
         have HO6:Aside (IOwn ((w5.setCell ⟨g,off+pre.length,none⟩ (.slice (some ⟨pb,o2,none⟩) (p.length-(j+1)) (pc-(j+1)))).drew) n₁ (.slice (some ⟨g4,0,none⟩) (row.length+1+1) c4) (x::(row++[y]))):=aad (aam HO5.out (p:=⟨g,off+pre.length,none⟩) hgn _) (Below.refl _ _).drew
         obtain⟨c0,c1,c2⟩:=hk5.cells
         have hfg:=hk5.frozeng (off+pre.length)
         obtain⟨u0,d0⟩: ∃u0,w5.cell? ⟨g,off+pre.length,none⟩=some u0:=by
          obtain⟨pb2,po2,pc2,d0,_⟩:=hk5.pieceA
          exact⟨_,d0⟩
         have hps2:(pre++List.drop j p::rest).length=ps.length:=by have:=HL2.out;simp;omega
         rw[hps2] at c2
         clear HJ HPJ HNOT HFB hps2 hk5 y1 y2 hkg5 HO5 HOL5 ho2 hpI
         go_upto_region 12 with fail
         go_region
         go_wp2_with fail
         go_roundw
         case rel=>exact⟨j+1,row++[y],g4,row.length+1+1,c4,by omega,by simp,by simp,HO6,HJ2,hrow2,y1',y2',hn6⟩
         case measure=>simp only[intOf];omega
     ·have hdr:p.drop j=[]:=List.drop_of_length_le (by omega)
      have HJ2:Hid (((aaz (aaa L) (ach E) m (x::row) rest).1,(pre++[[]])++(aaz (aaa L) (ach E) m (x::row) rest).2)=J):=by
       show _=_
       rw[←HJ.out,hdr,axh]
       simp
      rw[hdr] at hk
      have hk':MWk w₁ bd T B g off cap ((pre++[[]])++rest) wr:=by simpa using hk
      clear HJ hdr hk
      go_wp2_with fail
      go_roundw
      case rel=>exact⟨pre++[[]],rest,row,g2,k2,cc2,by simp,by simp,by have:=HL2.out;show _=_;simp;omega,HOWN,HJ2,hrow,HP2,hk',hkg,hnr⟩
      case measure=>simp only[intOf];omega
theorem a3m: ∀ {E:List Ent} {e:Ent} {x:Int},e∈E→e.1.head? =some x→e.1.length≤ab0 E x:=by
 intro E
 induction E with
 | nil=>intro e x he;cases he
 | cons a r ih=>
  intro e x he hx
  unfold ab0
  rcases List.mem_cons.1 he with rfl | he
  ·rw[if_pos hx];omega
  ·have:=ih he hx
   split<;>omega
theorem a0x {E:List Ent}(x:Int):a8n (ach E) x (ab0 E x):=by
 intro q hq hx
 unfold ach at hq
 obtain⟨l,hl⟩:=Option.isSome_iff_exists.1 hq
 exact a3m (e:=(q,l)) (ahm hl) hx
theorem atn {E:List Ent}(hok: ∀e∈E,EntOk e)(x:Int):ab0 E x≤8:=avi E x (fun e he=>(abf (hok e he).row).2)
structure RestOk (cls:Int→Int)(ps:List (List Int)):Prop where
 int: ∀p∈ps,∀q∈p,InI q
 rise:Rising cls 0 ps
 len:ps.length≤1000000000000
 few: ∀p∈ps,p.length≤1000000000000
theorem a3t {cls:Int→Int}{fnd:List Int→Bool}{m:Nat}: ∀(ps:List (List Int)) (row:List Int),∀p'∈(aaz cls fnd m row ps).2,∃p∈ps,∃k,p'=p.drop k:=by
 have key: ∀(p row:List Int),∃k,(aa6 cls fnd m row p).2.1=p.drop k:=by
  intro p
  induction p with
  | nil=>intro row;exact⟨0,rfl⟩
  | cons x xs ih=>
   intro row
   unfold aa6
   split
   ·exact⟨0,rfl⟩
   ·split
    ·obtain⟨k,hk⟩:=ih (row++[x])
     exact⟨k+1,by simpa using hk⟩
    ·exact⟨0,rfl⟩
 intro ps
 induction ps with
 | nil=>intro row p' h;simp[aaz] at h
 | cons p ps ih=>
  intro row p' h
  obtain⟨k,hk⟩:=key p row
  unfold aaz at h
  split at h
  ·rcases List.mem_cons.1 h with rfl | h
   ·exact⟨p,by simp,k,hk⟩
   ·exact⟨p',by simp[h],0,by simp⟩
  ·rcases List.mem_cons.1 h with rfl | h
   ·exact⟨p,by simp,k,hk⟩
   ·obtain⟨q,hq,j,hj⟩:=ih _ p' h
    exact⟨q,by simp[hq],j,hj⟩
theorem av4: ∀(ps:List (List Int)) (n:Nat),∀p'∈acb n ps,∃p∈ps,∃k,p'=p.drop k:=by
 intro ps
 induction ps with
 | nil=>intro n p' h;simp[acb] at h
 | cons p ps ih=>
  intro n p' h
  unfold acb at h
  rcases List.mem_cons.1 h with rfl | h
  ·exact⟨p,by simp,_,rfl⟩
  ·obtain⟨q,hq,j,hj⟩:=ih _ p' h
   exact⟨q,by simp[hq],j,hj⟩
theorem RestOk.sub {cls:Int→Int}{ps qs:List (List Int)}(h:RestOk cls ps)(hm: ∀p'∈qs,∃p∈ps,∃k,p'=p.drop k)(hr:Rising cls 0 qs)(hl:qs.length≤ps.length):RestOk cls qs where
 int:=fun p' hp q hq=>by
  obtain⟨p,h1,k,rfl⟩:=hm p' hp
  exact h.int p h1 q (List.mem_of_mem_drop hq)
 rise:=hr
 len:=by have:=h.len;omega
 few:=fun p' hp=>by
  obtain⟨p,h1,k,rfl⟩:=hm p' hp
  have:=h.few p h1
  rw[List.length_drop]
  omega
set_option maxHeartbeats 4000000 in
set_option maxRecDepth 20000 in
theorem a2n {w₁:World}{bd T B g off cap me ml:Nat}{val:List Int→Value}{L:List Mk}{F:Int→List Int}{E:List Ent}{x:Int}{t:List Int}{ps:List (List Int)}{W:World}
  (hk:MWk w₁ bd T B g off cap ((x::t)::ps) W) (hd:DataAt w₁ bd L F) (ht:TabAt w₁ T me ml val E) (hok:RestOk (aaa L) ((x::t)::ps)) (hc0: ∀q,0≤aaa L q):
  Calls Tryz.prog 149 #[.pointer (some ⟨B,0,none⟩)] W fun e W'=> ∃v qs,e=.returned v∧IOwn W' W.heap.size v (aei (aaa L) (ach E) ((x::t)::ps).flatten).1∧qs.flatten=(aei (aaa L) (ach E) ((x::t)::ps).flatten).2∧MWk w₁ bd T B g off cap qs W'∧RestOk (aaa L) qs∧Mv B g W W':=by
 have hm8:=atn ht.ok x
 have hx:=hok.int _ (List.mem_cons_self ..) x (by simp)
 have hlen:((x::t)::ps).length≤4611686018427387904:=by have:=hok.len;omega
 have hfew: ∀p∈(x::t)::ps,p.length≤4611686018427387904:=fun p hp=>by have:=hok.few p hp;omega
 generalize hP:(x::t)::ps=P at*
 have hhd:P.flatten.head? =some x:=by rw[←hP];simp
 have hne:P.flatten≠ []:=fun e=>by rw[e] at hhd;cases hhd
 have hmost:=a0x (E:=E) x
 have hhN:agv (ach E) P.flatten=abz (ach E) P.flatten (min (max 1 (ab0 E x)) P.flatten.length):=axn _ (by omega) hhd (fun q h1 h2=>Nat.le_trans (hmost q h1 h2) (by omega))
 have hBW:=hk.blk.lt
 obtain⟨csg,hcg⟩:=hk.row
 have hgW:=hcg.lt
 have hle:=apm (fnd:=ach E) P.flatten
 have hlp:1≤P.flatten.length:=List.length_pos_iff.2 hne
 rw[←hP] at hk hlen hfew
 have hbeg:=apw hk ht hx hlen hfew hm8
 rw[hP] at hk hlen hfew hbeg
 rw[←hhN] at hbeg
 clear hhN
 generalize hS:aei (aaa L) (ach E) P.flatten=S
 have HS:Hid (aei (aaa L) (ach E) P.flatten=S):=hS
 clear hS
 go_enter Tryz.func149,Tryz.ntmps149
 go_wp2_with fail
 refine hbeg.mono ?_
 rintro e W2 ⟨n,b,gr,kr,cr,rfl,rfl,rfl,hown,hb2⟩
 have hk2:=hk.go hb2
 have hkr:=hown.form1
 by_cases hn:agv (ach E) P.flatten=0
 ·rw[if_pos hn] at hown hkr
  have hst:aei (aaa L) (ach E) P.flatten=(P.flatten.take 1,P.flatten.drop 1):=by unfold aei;rw[if_pos hn]
  rw[hn]
  have hkr1:kr=1:=by rw[hkr,List.length_take];omega
  subst hkr1
  have hdr:=av5 hk2 hlen hfew 1 hlp (by omega)
  have HJS:Hid (S=(P.flatten.take 1,P.flatten.drop 1)):=HS.out.symm.trans hst
  clear hst hbeg hkr hn HS
  go_wp2_with fail
  refine hdr.mono ?_
  rintro e W3 ⟨rfl,hk3,hmv3⟩
  have hmv:Mv B g W W3:=(Mv.below hb2).trans hmv3
  have hown3:IOwn W3 W.heap.size (.slice (some ⟨gr,0,none⟩) 1 cr) (P.flatten.take 1):=adj hown (fun k hk'=>hmv3.block k (alh hown k hk') (by have:=(aan hown hk').1;omega) (by have:=(aan hown hk').1;omega))
  have hfin:IOwn W3 W.heap.size (.slice (some ⟨gr,0,none⟩) 1 cr) S.1∧(acb 1 P).flatten=S.2:=by rw[HJS.out];exact⟨hown3,amb P 1⟩
  clear HJS
  go_wp2_with fail
  go_ret
  exact⟨_,_,rfl,hfin.1,hfin.2,hk3,hok.sub (av4 P 1) (hok.rise.drop hc0 P 1) (by rw[ajb];exact Nat.le_refl _),hmv⟩
 ·rw[if_neg hn] at hown hkr
  have hhit:=a0p hn
  generalize hN:agv (ach E) P.flatten=n at*
  have hst:aei (aaa L) (ach E) P.flatten=acr (aaa L) (ach E) (P.flatten.take n) 0 (P.flatten.drop n):=by unfold aei;rw[hN,if_neg hn]
  have hkr1:kr=n:=by rw[hkr,List.length_take];omega
  subst hkr1
  have hdr:=av5 hk2 hlen hfew kr hle.1 hle.2
  obtain⟨r,hr⟩: ∃r,P.flatten.take kr=x::r:=by
   cases hf:P.flatten with
   | nil=>exact absurd hf hne
   | cons y q=>
    rw[hf] at hhd
    obtain rfl:y=x:=by simpa using hhd
    obtain⟨m,rfl⟩:=Nat.exists_eq_succ_of_ne_zero hn
    exact⟨q.take m,by simp⟩
  rw[hr] at hown hhit hst
  have hmr:=hmost _ hhit rfl
  have hrd:=hok.rise.drop hc0 P kr
  have hokd:RestOk (aaa L) (acb kr P):=hok.sub (av4 P kr) hrd (by rw[ajb];exact Nat.le_refl _)
  obtain⟨js,jr,jl⟩:=a0c hmost hc0 (acb kr P) (x::r) 0 hrd (Int.le_refl _) rfl hmr
  rw[amb,←hst,HS.out] at js
  have hdec:decide (kr≠0)=true:=by simpa using hn
  rw[hdec]
  have HJS:Hid (S=_):=js
  have hjm:=a3t (cls:=aaa L) (fnd:=ach E) (m:=ab0 E x) (acb kr P) (x::r)
  clear hst hbeg hkr hN hr hhit js HS
  go_wp2_with fail
  refine hdr.mono ?_
  rintro e W3 ⟨rfl,hk3,hmv3⟩
  have hmv:Mv B g W W3:=(Mv.below hb2).trans hmv3
  have hown3:IOwn W3 W.heap.size (.slice (some ⟨gr,0,none⟩) kr cr) (x::r):=adj hown (fun k hk'=>hmv3.block k (alh hown k hk') (by have:=(aan hown hk').1;omega) (by have:=(aan hown hk').1;omega))
  have hjo:=azp hk3 hd ht hx hokd.int (by have:=hokd.len;omega) (fun p hp=>by have:=hokd.few p hp;omega) hm8 hmr ⟨hBW,hgW,hmv.size,hk.below.size⟩ hown3
  generalize aaz (aaa L) (ach E) (ab0 E x) (x::r) (acb kr P)=J at hjo jr jl HJS hjm
  go_wp2_with fail
  refine hjo.mono ?_
  rintro e W4 ⟨g2,k2,c2,rfl,hown4,hk4,hkg⟩
  have hfin:IOwn W4 W.heap.size (.slice (some ⟨g2,0,none⟩) k2 c2) S.1∧J.2.flatten=S.2:=by rw[HJS.out];exact⟨hown4,rfl⟩
  clear HJS
  go_wp2_with fail
  go_ret
  exact⟨_,J.2,rfl,hfin.1,hfin.2,hk4,hokd.sub hjm jr (by rw[jl];exact Nat.le_refl _),⟨Nat.le_trans hmv.size hkg.size,fun k h1 h2 h3=>(hkg.block k h1 h3).trans (hmv.block k h1 h2 h3)⟩⟩
section
variable {cls:Int→Int}
theorem a4w: ∀(n k:Nat) (l:List Int),l.length≤n→l.length≤k→byC cls n l=byC cls k l:=by
 intro n
 induction n with
 | zero=>
  intro k l h1 _
  obtain rfl:l=[]:=List.eq_nil_of_length_eq_zero (by omega)
  cases k<;>rfl
 | succ n ih=>
  intro k l h1 h2
  cases l with
  | nil=>cases k<;>rfl
  | cons x xs=>
   cases k with
   | zero=>simp at h2
   | succ k=>
    have:=agr (p:=fun y=>cls y==cls x) xs
    simp only[List.length_cons] at h1 h2
    rw[byC,byC,ih k _ (by omega) (by omega)]
def anm (cls:Int→Int)(l:List Int):List (List Int):=byC cls l.length l
theorem ayd (c:Int): ∀(xs:List Int) (k:Nat),k≤xs.length→(∀i,i<k→cls (xs.getD i 0)=c)→(k<xs.length→cls (xs.getD k 0)≠c)→xs.takeWhile (fun y=>cls y==c)=xs.take k∧xs.dropWhile (fun y=>cls y==c)=xs.drop k:=by
 intro xs
 induction xs with
 | nil=>intro k hk _ _;simp at hk;subst hk;simp
 | cons x t ih=>
  intro k hk h1 h2
  cases k with
  | zero=>
   have:=h2 (by simp)
   simp at this
   simp[this]
  | succ k=>
   have h0:=h1 0 (by omega)
   simp at h0
   obtain⟨e1,e2⟩:=ih k (by simpa using hk) (fun i hi=>by have:=h1 (i+1) (by omega);simpa using this) (fun hi=>by have:=h2 (by simp;omega);simpa using this)
   simp[h0,e1,e2]
structure RunEnds (cls:Int→Int)(X:List Int)(fr en:Nat):Prop where
 lt:fr<en
 le:en≤X.length
 same: ∀i,fr≤i→i<en→cls (X.getD i 0)=cls (X.getD fr 0)
 stop:en<X.length→cls (X.getD en 0)≠cls (X.getD fr 0)
theorem arb (X:List Int)(a i:Nat):(X.drop a).getD i 0=X.getD (a+i) 0:=by simp[List.getD_eq_getElem?_getD,List.getElem?_drop]
theorem RunEnds.cut {X:List Int}{fr en:Nat}(h:RunEnds cls X fr en):anm cls (X.drop fr)=(X.drop fr).take (en-fr)::anm cls (X.drop en):=by
 have h1:=h.lt
 have h2:=h.le
 have hdr:X.drop fr=X[fr]::X.drop (fr+1):=List.drop_eq_getElem_cons (by omega)
 have hx:X.getD fr 0=X[fr]:=by simp[List.getD_eq_getElem?_getD,List.getElem?_eq_getElem (show fr<X.length by omega)]
 obtain⟨e1,e2⟩:=ayd (cls:=cls) (cls X[fr]) (X.drop (fr+1)) (en-fr-1) (by rw[List.length_drop];omega)
  (fun i hi=>by rw[arb,h.same _ (by omega) (by omega),hx])
  (fun hi=>by
   rw[List.length_drop] at hi
   rw[arb,show fr+1+(en-fr-1)=en by omega,←hx]
   exact h.stop (by omega))
 have e3:(X[fr]::X.drop (fr+1)).take (en-fr)=X[fr]::(X.drop (fr+1)).take (en-fr-1):=by
  obtain⟨k,hk⟩: ∃k,en-fr=k+1:=⟨en-fr-1,by omega⟩
  rw[hk,List.take_succ_cons,Nat.add_sub_cancel]
 unfold anm
 rw[hdr,e3]
 simp only[List.length_cons,byC]
 rw[e1,e2,List.drop_drop,show fr+1+(en-fr-1)=en by omega,a4w _ (X.drop en).length _ (by simp;omega) (Nat.le_refl _)]
end
structure PcO (n₀:Nat)(W:World)(base:Nat)(v:Value)(ps:List (List Int)):Prop where
 row: ∃vs:List Value,W.ownsRow base 46 1 v ps.length vs∧ ∀j (h:j<ps.length),∃b o c,vs[j]? =some (.slice (some ⟨b,o,none⟩) ps[j].length c)∧ps[j].length≤c∧Pc n₀ W b o ps[j]
theorem a7z:(Tryz.prog.info? 46).map (fun i=>(i.zero,i.size,i.bytes))=some (some (.slice none 0 0),1,24):=by kernel_rfl
theorem aew {w:World}{ops:Array Oper}{rest:List Oper}{o:Oper}{a:Act}{Q:Exit→Act→World→Prop}(hgd:o.guard=none)(s x:Operand)
  (ho:o.op=.call {callee:=.builtin .append,args:= #[s,x],argTypes:= #[193,193]})
  (base:Nat) (v:Value) (vs:List Value) (hs:a.eval s=v) (hown:w.ownsRow base 46 1 v vs.length vs) (sa:Option Addr) (sn sc:Nat) (ad:Addr) (c:Nat) (hx:a.eval x=.slice (some ad) 1 c) (hcell:w.cell? ad=some (.slice sa sn sc))
  (hlen:vs.length≤1000000000000) (hbase:base≤w.heap.size)
  (h: ∀v' w',w'.ownsRow base 46 1 v' (vs.length+1) (vs++[.slice sa sn sc])→w.grownBy w' v.ownBlock→(v'.ownBlock=v.ownBlock∨v'.ownBlock=some w.heap.size)→wpList Tryz.prog ops Q rest (a.put o.dst v') w'):
  wpList Tryz.prog ops Q (o::rest) a w:=by
 obtain⟨i,hi,hz,hsz,hby⟩:=info_parts a7z
 refine wpList_append_own_at (P:=Tryz.prog) _ hgd s x 193 ho base 46 i (.slice none 0 0) 1 24 Tryz.underlying193 hi hz hsz hby rfl (by decide) v vs.length vs hs hown ad 1 c [.slice sa sn sc] hx (by simp) ?_ ?_ ?_ ?_ hbase ?_
 ·intro j u hu
  match j,hu with
  | 0,hu=>simp at hu;subst hu;rw[show ad.add 0=ad by cases ad;simp[Addr.add]];exact hcell
 ·intro u hu
  simp at hu
  subst hu
  rfl
 ·unfold maxLen;omega
 ·omega
 ·intro v' w' h1 h2 _ hat
  exact h v' w' h1 h2 hat
theorem PcO.nil (n₀:Nat)(W:World)(base:Nat):PcO n₀ W base (.slice none 0 0) []:=⟨[],World.ownsRow_nil _ _ _ _,fun j h=>absurd h (by simp)⟩
set_option maxHeartbeats 4000000 in
set_option maxRecDepth 20000 in
theorem a3j {bd:Nat}{L:List Mk}{F:Int→List Int}{b c:Nat}{X:List Int}{w:World}(hd:DataAt w bd L F)(hX: ∀q∈X,InI q)(hin:IOwn w 0 (.slice (some ⟨b,0,none⟩) X.length c) X)(hl:X.length≤100000000000):
  Calls Tryz.prog 147 #[.pointer (some ⟨bd,0,none⟩),.slice (some ⟨b,0,none⟩) X.length c] w fun e w'=> ∃v,e=.returned v∧PcO w.heap.size w' w.heap.size v (anm (aaa L) X)∧Below w.heap.size w w':=by
 obtain⟨hbW,hcX,hcells⟩:b<w.heap.size∧X.length≤c∧ ∀j,j<X.length→w.cell? ⟨b,j,none⟩=some (.int .i64 (X.getD j 0)):=by
  rcases hin.form with ⟨e,_⟩ | ⟨g,cap,e,_,h1,h2,h3,_⟩
  ·cases e
  ·cases e;exact⟨h1,h2,fun j hj=>by rw[List.getD_eq_getElem?_getD];exact h3 j hj⟩
 have h1: ∀W p q,Below w.heap.size w W→InI p→Calls Tryz.prog 43 #[.pointer (some ⟨bd,0,none⟩),.int .i64 p] (W.drewN q) fun e w'=>e=.returned (.int .i64 (aaa L p))∧w'=W.drewN q:=fun W p q hW hp=>(ajd bd L F p _ hp (hd.below (hW.trans ((ac3 W q).mono hW.size)))).mono fun e w' h=>⟨h.1,h.2.symm⟩
 have HCX:Hid (X.length≤c):=hcX
 have HR:Hid ([]++anm (aaa L) (X.drop 0)=anm (aaa L) X):=by show _=_;simp
 generalize anm (aaa L) X=R at HR⊢
 clear hin hcX
 go_enter Tryz.func147,Tryz.ntmps147
 go_wp2_with fail
 go_loopw [5,6,7] (fun v fv tv wr=> ∃(fr:Nat) (acc:List (List Int)),fr≤X.length∧fv=.int .i64 fr∧tv=.int .i64 fr∧Aside (PcO w.heap.size wr w.heap.size v acc)∧Hid (acc.length≤fr∧ ∃a n c,v=.slice a n c)∧Hid (acc++anm (aaa L) (X.drop fr)=R)∧Below w.heap.size w wr) (fun _ fv _ _=>X.length-(intOf fv).toNat)
 case atStart=>exact⟨0,[],by omega,rfl,rfl,PcO.nil _ _ _,⟨by simp,none,0,0,rfl⟩,HR,Below.refl _ _⟩
 case round=>
  clear HR
  obtain⟨fr,acc,hfr,rfl,rfl,HPO,HV,HR,hbr⟩:=hrel
  obtain⟨va,vn,vc,rfl⟩:=HV.out.2
  by_cases hlt:fr<X.length
  ·have hx:InI (X.getD fr 0):=hX _ (ahl hlt)
   have cfr:=(hbr.cell (p:=⟨b,fr,none⟩) hbW).trans (hcells fr hlt)
   go_wp2_with fail
   obtain⟨wo,hwo⟩: ∃wo,wo=wr:=⟨_,rfl⟩
   subst hwo
   go_loopw [7] (fun tv wr2=> ∃en:Nat,fr≤en∧en≤X.length∧tv=.int .i64 en∧Hid (∀i,fr≤i→i<en→aaa L (X.getD i 0)=aaa L (X.getD fr 0))∧Below wo.heap.size wo wr2) (fun tv _=>X.length-(intOf tv).toNat)
   case atStart=>exact⟨fr,Nat.le_refl _,hfr,rfl,fun i h1 h2=>absurd h2 (by omega),Below.refl _ _⟩
   case round=>
    clear cfr
    obtain⟨en,he1,he2,rfl,HS,hb2⟩:=hrel
    have hbw:=hbr.trans (hb2.mono hbr.size)
    have cfr:=(hbw.cell (p:=⟨b,fr,none⟩) hbW).trans (hcells fr hlt)
    have HE:Hid (en<X.length→aaa L (X.getD en 0)=aaa L (X.getD fr 0)→ ∀i,fr≤i→i<en+1→aaa L (X.getD i 0)=aaa L (X.getD fr 0)):=fun _ hc i g1 g2=>by
     rcases Nat.lt_or_ge i en with h | h
     ·exact HS.out i g1 h
     ·obtain rfl:i=en:=by omega
      exact hc
    have HF:Hid (¬(en<X.length∧aaa L (X.getD en 0)=aaa L (X.getD fr 0))→RunEnds (aaa L) X fr en):=fun hc=>⟨by
     rcases Nat.lt_or_ge fr en with h | h
     ·exact h
     ·obtain rfl:fr=en:=by omega
      exact absurd ⟨hlt,rfl⟩ hc,he2,HS.out,fun h e=>hc ⟨h,e⟩⟩
    have h2: ∀p q,InI p→Calls Tryz.prog 43 #[.pointer (some ⟨bd,0,none⟩),.int .i64 p] (wr.drewN q) fun e w'=>e=.returned (.int .i64 (aaa L p))∧w'=wr.drewN q:=fun p q hp=>h1 wr p q hbw hp
    obtain⟨bb,hbb⟩: ∃bb,bb=(decide (en<X.length)&&(aaa L (X.getD en 0)==aaa L (X.getD fr 0))):=⟨_,rfl⟩
    have HBB:Hid (bb=(decide (en<X.length)&&(aaa L (X.getD en 0)==aaa L (X.getD fr 0)))):=hbb
    clear hbb
    go_upto_region 5 with fail
    go_cut [31] from 13 to 33 (fun v wx=>v=.bool bb∧Aside (Below wo.heap.size wo wx))
    case first=>
     by_cases hen:en<X.length
     ·have cen:=(hbw.cell (p:=⟨b,en,none⟩) hbW).trans (hcells en hen)
      have hy:InI (X.getD en 0):=hX _ (ahl hen)
      have hb3:(aaa L (X.getD en 0)==aaa L (X.getD fr 0))=bb:=by rw[HBB.out];simp[hen]
      generalize X.getD en 0=y at cen hy hb3
      generalize X.getD fr 0=x at cfr hx hb3
      clear HE HF HBB HS
      go_quiet (first | (go_at_call 43;exact Calls.quiet_of_same (h2 _ _ (by assumption))))
      go_wp2_with fail
      go_meet
      exact⟨by simp,hb2.trans ((ac3 wr _).mono hb2.size)⟩
     ·have hb3:bb=false:=by rw[HBB.out];simp[hen]
      have hen2: ¬((en:Int)<(X.length:Int)):=by omega
      clear HE HF HBB HS
      subst hb3
      go_quiet (fail)
      go_wp2_with fail
      go_meet
      exact⟨by simp,hb2.trans ((ac3 wr _).mono hb2.size)⟩
    case rest=>
     obtain⟨rfl,HB2⟩:=hcut
     clear cfr hb2 hbw h2 HS
     cases bb with
     | true=>
      have hbb:=HBB.out
      simp at hbb
      have HS2:Hid (∀i,fr≤i→i<en+1→aaa L (X.getD i 0)=aaa L (X.getD fr 0)):=HE.out hbb.1 hbb.2
      have hen:=hbb.1
      clear HE HF HBB hbb
      go_wp2_with fail
      go_roundw
      case rel=>exact⟨en+1,by omega,by omega,by simp,HS2,HB2.out⟩
      case measure=>simp only[intOf];omega
     | false=>
      have hbb:=HBB.out
      have hre:RunEnds (aaa L) X fr en:=HF.out (fun h=>by rw[decide_eq_true h.1,h.2] at hbb;simp at hbb)
      obtain⟨vs,hrow,hvs⟩:=HPO.out.row
      have hvl:vs.length=acc.length:=by have:=hrow.1;omega
      have hrow':wc.ownsRow w.heap.size 46 1 (.slice va vn vc) vs.length vs:=by rw[hvl];exact aad hrow HB2.out
      have hbc:Below w.heap.size w wc:=hbr.trans (HB2.out.mono hbr.size)
      have hcut:=hre.cut
      have hRR:Hid (acc++[(X.drop fr).take (en-fr)]++anm (aaa L) (X.drop en)=R):=by
       show _=_
       rw[←HR.out,hcut]
       simp
      have hen1:=hre.lt
      have hcfr: ¬c=fr:=by have:=HCX.out;omega
      have hcc:en≤c:=by have:=HCX.out;omega
      have hbA:=(Below.refl wc.heap.size wc).alloc (Nat.le_refl _) (.cells #[.slice (some ⟨b,fr,none⟩) (en-fr) (c-fr)] 46)
      have hnb:=Blk.new wc 46 #[.slice (some ⟨b,fr,none⟩) (en-fr) (c-fr)]
      have hszA:w.heap.size≤(wc.alloc (.cells #[.slice (some ⟨b,fr,none⟩) (en-fr) (c-fr)] 46)).heap.size:=Nat.le_trans hbc.size hbA.size
      have HROW:Aside ((wc.alloc (.cells #[.slice (some ⟨b,fr,none⟩) (en-fr) (c-fr)] 46)).ownsRow w.heap.size 46 1 (.slice va vn vc) vs.length vs):=aad hrow' hbA
      have hvl2:vs.length≤1000000000000:=by have:=HV.out.1;omega
      clear HBB hbb HE HF hrow hrow' hre hcut
      go_wp2_with (first | (at_builtin;refine aew rfl _ _ rfl w.heap.size _ vs rfl HROW.out (some ⟨b,fr,none⟩) (en-fr) (c-fr) ⟨wc.heap.size,0,none⟩ _ rfl (hnb.cell 0) hvl2 hszA ?_;intro v4 w4 hown4 hgr4 hat4;obtain⟨a4,c4,rfl⟩:=aax hown4))
      have hb4:Below w.heap.size w w4:=(hbc.alloc hbc.size _).grown hgr4 hszA (fun j hj=>(aan HROW.out hj).1)
      have HPO4:Aside (PcO w.heap.size w4 w.heap.size (.slice a4 (vs.length+1) c4) (acc++[(X.drop fr).take (en-fr)])):=by
       refine⟨vs++[.slice (some ⟨b,fr,none⟩) (en-fr) (c-fr)],by rw[List.length_append,←hvl];exact hown4,fun j hj=> ?_⟩
       rcases Nat.lt_or_ge j acc.length with h | h
       ·obtain⟨b',o',c',q1,q2,q3⟩:=hvs j h
        rw[List.getElem_append_left h]
        exact⟨b',o',c',by rw[List.getElem?_append_left (by omega)];exact q1,q2,q3.same (fun k hk=>(hb4.block k hk).trans (hbr.block k hk).symm)⟩
       ·have hj':j=acc.length:=by simp at hj;omega
        subst hj'
        have hlt2:((X.drop fr).take (en-fr)).length=en-fr:=by rw[List.length_take,List.length_drop];omega
        simp only[List.getElem_append_right (Nat.le_refl _),Nat.sub_self,List.getElem_cons_zero,hlt2]
        refine⟨b,fr,c-fr,by rw[List.getElem?_append_right (by omega),hvl];simp,by omega,hbW,fun i hi=> ?_⟩
        rw[hlt2] at hi
        rw[(hb4.cell (p:=⟨b,fr+i,none⟩) hbW),hcells (fr+i) (by omega),List.getElem?_take_of_lt hi,List.getElem?_drop,List.getD_eq_getElem?_getD]
      clear hown4 hgr4 hat4 HROW hvs
      go_roundw
      case rel=>exact⟨en,acc++[(X.drop fr).take (en-fr)],by omega,by simp,by simp,by rw[←hvl];exact HPO4,⟨by have:=HV.out.1;simp;omega,_,_,_,rfl⟩,hRR,hb4⟩
      case measure=>simp only[intOf];omega
  ·have hRR:R=acc:=by
    rw[←HR.out,List.drop_of_length_le (by omega)]
    simp[anm,byC]
   clear HR
   go_wp2_with fail
   go_ret
   rw[hRR]
   exact⟨_,rfl,HPO.out,hbr⟩
structure Formed (L:List Mk)(E:Int→List Int)(ps X:List Int):Prop where
 form:ahx L E ps X
 mem: ∀x∈X,x∈abv E ps
 len:X.length=(abv E ps).length
theorem FormPost.formed {L:List Mk}{E:Int→List Int}{w:World}{ps:List Int}{e:Ending}{w':World}(h:FormPost L E w ps e w'): ∃g k c X,e=.returned (.slice (some ⟨g,0,none⟩) k c)∧IOwn w' w.heap.size (.slice (some ⟨g,0,none⟩) k c) X∧Formed L E ps X∧Below w.heap.size w w':=by
 obtain⟨g,k,c,X,h1,h2,h3,⟨h4,h5⟩,h6⟩:=h
 exact⟨g,k,c,X,h1,h2,⟨h3,h4,h5⟩,h6⟩
theorem avu {w:World}{bd:Nat}{L:List Mk}{E:Int→List Int}(h:DataAt w bd L E){ps X:List Int}(hf:Formed L E ps X)(n:Nat)(hp:ps.length≤n):X.length≤57*n:=by
 have:=(flat_len h ps).1
 rw[hf.len]
 omega
theorem a0v {t:List UInt8}{L:List Mk}{E:Int→List Int}(h:aaw t=.ok (L,E)){ps X:List Int}(hps: ∀q∈ps,InI q)(hf:Formed L E ps X): ∀q∈X,InI q:=fun q hq=>a0y h hps q (hf.mem q hq)
end Go.Proofs.YtfhpgmlfgjfknaaGreatDoor
