/- Contracts and lemmas (nothing is claimed here). -/
import Derived.Test.YtpfkoldfbecdlaaGreatDoorJ9
import Derived.Maps.AppendAt
import Derived.Test.YtpfkoldfbecdlaaGreatDoorJ2
namespace Go.Proofs.YtpfkoldfbecdlaaGreatDoor
open Go.RowKit Go.Vf Go.Shelf
attribute [local go_sem] Oper.semAt_some
set_option maxHeartbeats 1000000 in
theorem chars_in (n:Nat)(s:ByteArray)(w:World):
  CallsIn Fence.wide n Tryz.prog 87 #[.string s] w fun e w'=>e=.returned (.func (.func 130) #[] #[.pointer (some ⟨w.heap.size,0,none⟩)])∧w'=w.alloc (.cells #[.string s] 9):=by
 refine callsIn_of_wp Tryz.func87 rfl trivial ?_ rfl
 simp only[Tryz.ntmps87,List.size_toArray,List.length_cons,List.length_nil,Nat.reduceAdd,Nat.reduceSub,Array.replicate_succ,Array.replicate_zero,List.push_toArray,List.append_toArray,List.nil_append,List.cons_append]
 gi_wp2
 go_ret
 exact⟨rfl,rfl⟩
set_option maxRecDepth 100000 in
set_option maxHeartbeats 1000000 in
theorem chars1_in (n:Nat)(hn:1≤n)(l Bs n₀:Nat)(hn₀:2≤n₀)(s:ByteArray)(hsz:s.size≤4294967296)(ps:List Nat)(rest:List UInt8)(hs:s.data.toList=ac5 ps++rest)(hps: ∀p∈ps,ag9 p)(hrest:rest=[]∨ag7 rest)
  (J Jx:List (Nat×Int)→World→Prop) (W:World) (hJ:AbidesFrom W.heap.size J)
  (hY: ∀pre x W1,J pre W1→pre.length<(full ps rest).length→YieldAt Fence.wide (n-1) Tryz.prog l #[.int .i64 (x.1:Int),.int .i64 x.2] W1 fun e W'=>
   (e=.returned (.bool true)∧J (pre++[x]) W'∧Kpt n₀ W1 W')∨(e=.returned (.bool false)∧Jx (pre++[x]) W'))
  (hBs:Blk W Bs 9 #[.string s]) (ht:Tabs W) (h0:J [] W) (hnW:n₀≤W.heap.size):
  CallsIn Fence.wide n Tryz.prog 130 #[.func (.yield l) #[] #[],.pointer (some ⟨Bs,0,none⟩)] W fun e W'=>(∃v,e=.returned v)∧
   ((∃ys,ys=full ps rest∧J ys W')∨(∃pre,pre <+: full ps rest∧Jx pre W')):=by
 have HS:Hid (s.data.toList=ac5 ps++rest):=hs
 clear hs
 refine callsIn_of_wp Tryz.func130 rfl trivial ?_ rfl
 simp only[Tryz.ntmps130,List.size_toArray,List.length_cons,List.length_nil,Nat.reduceAdd,Nat.reduceSub,Array.replicate_succ,Array.replicate_zero,List.push_toArray,List.append_toArray,List.nil_append,List.cons_append]
 gi_wp2
 gi_loopw [3] (fun i wr=> ∃(ps1 ps2:List Nat),ps=ps1++ps2∧i=.int .i64 ((ac5 ps1).length:Nat)∧J (pl 0 ps1) wr∧Blk wr Bs 9 #[.string s]∧Below n₀ W wr)
  (fun i _=>s.size-(intOf i).toNat)
 case atStart=>exact⟨[],ps,rfl,rfl,h0,hBs,Below.refl _ _⟩
 case round=>
  obtain⟨ps1,ps2,HP,rfl,hJs,hB1,hbel⟩:=hrel
  have hc0:wr.cell? ⟨Bs,0,none⟩=some (.string s):=hB1.cell 0
  have htr:Tabs wr:=ht.below hn₀ hbel
  obtain⟨at_,hat⟩: ∃at_,at_=(ac5 ps1).length:=⟨_,rfl⟩
  rw[←hat]
  have hle:at_≤s.size:=by rw[hat,Lib.size_eq,HS.out,HP,abu];simp
  by_cases hlt:at_<s.size
  ·have Hat:Hid (at_=(ac5 ps1).length):=hat
   have HP':Hid (ps=ps1++ps2):=HP
   clear hat HP
   cases ps2 with
   | nil=>
    have hps1:ps=ps1:=by rw[HP'.out,List.append_nil]
    have hdrop:s.data.toList.drop at_=rest:=by
     rw[HS.out,hps1,Hat.out,List.drop_left]
    have hne:rest≠ []:=by
     intro h
     have:=congrArg List.length hdrop
     rw[h,List.length_drop,←Lib.size_eq] at this
     simp at this
     omega
    obtain⟨_,hno⟩:=hrest.resolve_left hne
    have hh:s[at_]=rest[0]?.getD 0:=by
     have h1:(s.data.toList.drop at_)[0]? =some s[at_]:=by rw[List.getElem?_drop];exact list_get s at_ hlt
     rw[hdrop] at h1
     rw[h1];rfl
    rw[←hh] at hno
    have hsl:(s.extract at_ s.size).data.toList=rest:=by
     rw[Lib.extract_data,List.take_of_length_le (by rw[List.length_drop,←Lib.size_eq];exact Nat.le_refl _)];exact hdrop
    rw[←hsl] at hno
    have HNO:Hid (∀k,adm s[at_].toNat=some k→abg k (s.extract at_ s.size).data.toList=false):=hno
    have hpre:pl 0 ps1++[(at_,(-1:Int))]=full ps rest:=by rw[full_broken _ hne,hps1,Hat.out]
    have HPRE:Hid (pl 0 ps1++[(at_,(-1:Int))]=full ps rest):=hpre
    have hlen:(pl 0 ps1).length<(full ps rest).length:=by rw[←hpre];simp
    clear hh hno hsl hdrop hpre hps1 hne
    have hfin: ∀w5:World,Below wr.heap.size wr w5→ ∃fn tmps assign body,(Instr.yield l #[.int .i64 (at_:Int),.int .i64 (-1)]).run Tryz.prog w5=.ok (.round l fn tmps assign body) w5∧RoundIn Fence.wide (n-1) Tryz.prog l fn tmps assign body w5 fun e W'=>(e=.returned (.bool true)∧J (full ps rest) W')∨(e=.returned (.bool false)∧Jx (full ps rest) W'):=fun w5 hg5=>by
     have hJ5:J (pl 0 ps1) w5:=hJ _ wr w5 none hJs (agl hg5) (by simp)
     obtain⟨fn,tmps,assign,body,hy,hR⟩:=hY (pl 0 ps1) (at_,(-1:Int)) w5 hJ5 hlen
     rw[HPRE.out] at hR
     exact⟨fn,tmps,assign,body,hy,hR.mono fun e W' h=>h.imp (fun h=>⟨h.1,h.2.1⟩) id⟩
    gi_wp2
    refine⟨trivial,(callsIn_wide.2 (rowOfByte_any s[at_] wr htr)).mono ?_⟩
    rintro e w2 ⟨⟨R,rfl,hR,hR0⟩,hb2⟩
    have hc2:w2.cell? ⟨Bs,0,none⟩=some (.string s):=(hb2.cell (p:=⟨Bs,0,none⟩) hB1.lt).trans hc0
    cases hrow:adm s[at_].toNat with
    | none=>
     obtain rfl:=hR0 hrow
     unfold noRowV
     clear hR hR0 hrow
     gi_wp2
     have hbel3:=(Below.refl w2.heap.size w2).alloc (Nat.le_refl _) (.cells #[.int .u8 0,.int .u8 0,.int .u8 0,.int .u8 0,.int .i64 0,.int .i64 0,.int .i64 0] 214)
     generalize w2.alloc (.cells #[.int .u8 0,.int .u8 0,.int .u8 0,.int .u8 0,.int .i64 0,.int .i64 0,.int .i64 0] 214)=W3 at hbel3⊢
     have hg3:Below wr.heap.size wr W3:=hb2.trans (hbel3.mono hb2.size)
     obtain⟨b,hb⟩: ∃b,b=w2.heap.size:=⟨_,rfl⟩
     rw[←hb]
     clear hb hc2
     refine wpIn_wide.2 ?_
     go_region
     go_wp2
     obtain⟨fn,tmps,assign,body,hy,hR⟩:=hfin _ hg3.drew
     gi_wp2
     refine hR.mono ?_
     rintro e W6 (⟨rfl,hJ6⟩ | ⟨rfl,hJx6⟩)
     ·gi_wp2
      refine bodyPost_ret (results_none rfl _ _ _) rfl ?_
      exact⟨⟨_,rfl⟩,.inl ⟨_,rfl,hJ6⟩⟩
     ·gi_wp2
      refine bodyPost_ret (results_none rfl _ _ _) rfl ?_
      exact⟨⟨_,rfl⟩,.inr ⟨_,List.prefix_rfl,hJx6⟩⟩
    | some k=>
     obtain rfl:=hR k hrow
     have hk:=(rowB_lt hrow).1
     have HWH:Hid (abg k (s.extract at_ s.size).data.toList=false):=HNO.out k hrow
     unfold rowV
     clear hR hR0 hrow
     gi_wp2
     have hb3:=Blk.new w2 214 #[.int .u8 ((aag k).first:Int),.int .u8 ((aag k).last:Int),.int .u8 ((aag k).low:Int),.int .u8 ((aag k).high:Int),.int .i64 ((aag k).size:Int),.int .i64 ((aag k).least:Int),.int .i64 ((aag k).most:Int)]
     have hbel3:=(Below.refl w2.heap.size w2).alloc (Nat.le_refl _) (.cells #[.int .u8 ((aag k).first:Int),.int .u8 ((aag k).last:Int),.int .u8 ((aag k).low:Int),.int .u8 ((aag k).high:Int),.int .i64 ((aag k).size:Int),.int .i64 ((aag k).least:Int),.int .i64 ((aag k).most:Int)] 214)
     generalize w2.alloc (.cells #[.int .u8 ((aag k).first:Int),.int .u8 ((aag k).last:Int),.int .u8 ((aag k).low:Int),.int .u8 ((aag k).high:Int),.int .i64 ((aag k).size:Int),.int .i64 ((aag k).least:Int),.int .i64 ((aag k).most:Int)] 214)=W3 at hb3 hbel3⊢
     have hbB3:Blk W3 Bs 9 #[.string s]:=(hB1.below hb2 hB1.lt).below hbel3 (Nat.lt_of_lt_of_le hB1.lt hb2.size)
     have hg3:Below wr.heap.size wr W3:=hb2.trans (hbel3.mono hb2.size)
     have d0:=hbB3.cell 0
     have r0:=hb3.cell 0
     have r1:=hb3.cell 1
     have r2:=hb3.cell 2
     have r3:=hb3.cell 3
     have r4:=hb3.cell 4
     have r5:=hb3.cell 5
     have r6:=hb3.cell 6
     have l1:=hbB3.lt
     have l2:=hb3.lt
     simp only[List.getElem?_toArray,List.getElem?_cons_zero,List.getElem?_cons_succ] at d0 r0 r1 r2 r3 r4 r5 r6
     obtain⟨b,hb⟩: ∃b,b=w2.heap.size:=⟨_,rfl⟩
     rw[←hb] at r0 r1 r2 r3 r4 r5 r6 l2 hb3⊢
     clear hb hc2
     refine wpIn_wide.2 ?_
     go_region_held (fun w'=>w'.cell? ⟨Bs,0,none⟩=some (.string s)∧w'.cell? ⟨b,0,none⟩=some (.int .u8 ((aag k).first:Int))∧w'.cell? ⟨b,1,none⟩=some (.int .u8 ((aag k).last:Int))∧w'.cell? ⟨b,2,none⟩=some (.int .u8 ((aag k).low:Int))∧w'.cell? ⟨b,3,none⟩=some (.int .u8 ((aag k).high:Int))∧w'.cell? ⟨b,4,none⟩=some (.int .i64 ((aag k).size:Int))∧w'.cell? ⟨b,5,none⟩=some (.int .i64 ((aag k).least:Int))∧w'.cell? ⟨b,6,none⟩=some (.int .i64 ((aag k).most:Int))∧Bs<w'.heap.size∧b<w'.heap.size) (first | go_keep | exact keep_two (by assumption) (by assumption)) (first | (go_at_call 132;refine(whole_any (s.extract at_ s.size) k hk _ (by simp;omega)).mono ?_;rw[HWH.out];rintro e w4 ⟨rfl,hb4⟩))
     go_wp2
     have hg4:Below wr.heap.size wr w4:=hg3.drew.trans (hb4.mono hg3.size)
     clear d0 r0 r1 r2 r3 r4 r5 r6
     obtain⟨fn,tmps,assign,body,hy,hR⟩:=hfin _ hg4
     gi_wp2
     refine hR.mono ?_
     rintro e W6 (⟨rfl,hJ6⟩ | ⟨rfl,hJx6⟩)
     ·gi_wp2
      refine bodyPost_ret (results_none rfl _ _ _) rfl ?_
      exact⟨⟨_,rfl⟩,.inl ⟨_,rfl,hJ6⟩⟩
     ·gi_wp2
      refine bodyPost_ret (results_none rfl _ _ _) rfl ?_
      exact⟨⟨_,rfl⟩,.inr ⟨_,List.prefix_rfl,hJx6⟩⟩
   | cons p ps2=>
    have hp:ag9 p:=hps p (by rw[HP'.out];simp)
    have hdrop:s.data.toList.drop at_=enc p++(ac5 ps2++rest):=by
     rw[HS.out,HP'.out,Hat.out,abu,List.append_assoc,List.drop_left];simp[ac5]
    obtain⟨k,hk,hk1,_,hk2,hk3,_⟩:=enc_row hp (ac5 ps2++rest)
    have hh:s[at_]=(enc p)[0]?.getD 0:=by
     have h1:(s.data.toList.drop at_)[0]? =some s[at_]:=by rw[List.getElem?_drop];exact list_get s at_ hlt
     rw[hdrop,List.getElem?_append_left (agp p)] at h1
     rw[h1];rfl
    have hrow:adm s[at_].toNat=some k:=by rw[hh];exact hk1
    have hsl:(s.extract at_ s.size).data.toList=enc p++(ac5 ps2++rest):=by
     rw[Lib.extract_data,List.take_of_length_le (by rw[List.length_drop,←Lib.size_eq];exact Nat.le_refl _)];exact hdrop
    have hwh:abg k (s.extract at_ s.size).data.toList=true:=by rw[hsl];exact hk3
    have HK2:Hid ((aag k).size=(enc p).length):=hk2
    have HSL:Hid ((s.extract at_ s.size).data.toList=enc p++(ac5 ps2++rest)):=hsl
    have HROW:Hid (adm s[at_].toNat=some k):=hrow
    have HWH:Hid (abg k (s.extract at_ s.size).data.toList=true):=hwh
    clear hh hrow hsl hwh hdrop hk1 hk2 hk3
    gi_wp2
    refine⟨trivial,(callsIn_wide.2 (rowOfByte_any s[at_] wr htr)).mono ?_⟩
    rintro e w2 ⟨⟨R,rfl,hR,hR0⟩,hb2⟩
    obtain rfl:=hR k HROW.out
    rw[HROW.out]
    unfold rowV
    have hc2:w2.cell? ⟨Bs,0,none⟩=some (.string s):=(hb2.cell (p:=⟨Bs,0,none⟩) hB1.lt).trans hc0
    gi_wp2
    have hb3:=Blk.new w2 214 #[.int .u8 ((aag k).first:Int),.int .u8 ((aag k).last:Int),.int .u8 ((aag k).low:Int),.int .u8 ((aag k).high:Int),.int .i64 ((aag k).size:Int),.int .i64 ((aag k).least:Int),.int .i64 ((aag k).most:Int)]
    have hbel3:=(Below.refl w2.heap.size w2).alloc (Nat.le_refl _) (.cells #[.int .u8 ((aag k).first:Int),.int .u8 ((aag k).last:Int),.int .u8 ((aag k).low:Int),.int .u8 ((aag k).high:Int),.int .i64 ((aag k).size:Int),.int .i64 ((aag k).least:Int),.int .i64 ((aag k).most:Int)] 214)
    generalize w2.alloc (.cells #[.int .u8 ((aag k).first:Int),.int .u8 ((aag k).last:Int),.int .u8 ((aag k).low:Int),.int .u8 ((aag k).high:Int),.int .i64 ((aag k).size:Int),.int .i64 ((aag k).least:Int),.int .i64 ((aag k).most:Int)] 214)=W3 at hb3 hbel3⊢
    have hbB3:Blk W3 Bs 9 #[.string s]:=(hB1.below hb2 hB1.lt).below hbel3 (Nat.lt_of_lt_of_le hB1.lt hb2.size)
    have hg3:Below wr.heap.size wr W3:=hb2.trans (hbel3.mono hb2.size)
    have d0:=hbB3.cell 0
    have r0:=hb3.cell 0
    have r1:=hb3.cell 1
    have r2:=hb3.cell 2
    have r3:=hb3.cell 3
    have r4:=hb3.cell 4
    have r5:=hb3.cell 5
    have r6:=hb3.cell 6
    have l1:=hbB3.lt
    have l2:=hb3.lt
    simp only[List.getElem?_toArray,List.getElem?_cons_zero,List.getElem?_cons_succ] at d0 r0 r1 r2 r3 r4 r5 r6
    obtain⟨b,hb⟩: ∃b,b=w2.heap.size:=⟨_,rfl⟩
    rw[←hb] at r0 r1 r2 r3 r4 r5 r6 l2 hb3⊢
    have HSZ:Hid (b=w2.heap.size):=hb
    clear hb hc2 hR hR0
    refine wpIn_wide.2 ?_
    go_region_held (fun w'=>w'.cell? ⟨Bs,0,none⟩=some (.string s)∧w'.cell? ⟨b,0,none⟩=some (.int .u8 ((aag k).first:Int))∧w'.cell? ⟨b,1,none⟩=some (.int .u8 ((aag k).last:Int))∧w'.cell? ⟨b,2,none⟩=some (.int .u8 ((aag k).low:Int))∧w'.cell? ⟨b,3,none⟩=some (.int .u8 ((aag k).high:Int))∧w'.cell? ⟨b,4,none⟩=some (.int .i64 ((aag k).size:Int))∧w'.cell? ⟨b,5,none⟩=some (.int .i64 ((aag k).least:Int))∧w'.cell? ⟨b,6,none⟩=some (.int .i64 ((aag k).most:Int))∧Bs<w'.heap.size∧b<w'.heap.size) (first | go_keep | exact keep_two (by assumption) (by assumption)) (first | (go_at_call 132;refine(whole_any (s.extract at_ s.size) k hk _ (by simp;omega)).mono ?_;rw[HWH.out];rintro e w4 ⟨rfl,hb4⟩))
    go_wp2
    have hB4:Blk w4 Bs 9 #[.string s]:=Blk.below (W:=W3.drew) hbB3 hb4 l1
    have hr4:Blk w4 b 214 #[.int .u8 ((aag k).first:Int),.int .u8 ((aag k).last:Int),.int .u8 ((aag k).low:Int),.int .u8 ((aag k).high:Int),.int .i64 ((aag k).size:Int),.int .i64 ((aag k).least:Int),.int .i64 ((aag k).most:Int)]:=Blk.below (W:=W3.drew) hb3 hb4 l2
    have hg4:Below wr.heap.size wr w4:=hg3.drew.trans (hb4.mono hg3.size)
    have ht4:Tabs w4:=htr.own hg4
    have c4:=hB4.cell 0
    have r44:=hr4.cell 4
    simp only[List.getElem?_toArray,List.getElem?_cons_zero,List.getElem?_cons_succ] at c4 r44
    have hz1:at_+(aag k).size≤s.size:=by
     have h1:=congrArg List.length HSL.out
     rw[←Lib.size_eq,List.length_append,←HK2.out] at h1
     simp at h1
     omega
    have hzk:1≤(aag k).size∧(aag k).size≤4:=by rw[HK2.out];exact⟨agp p,enc_le p⟩
    clear d0 r0 r1 r2 r3 r4 r5 r6
    have hch:(s.extract at_ (at_+(aag k).size)).data.toList=enc p:=by
     have h1:(s.extract at_ (at_+(aag k).size)).data.toList=(s.extract at_ s.size).data.toList.take (aag k).size:=by
      rw[Lib.extract_data,Lib.extract_data,List.take_take]
      congr 1
      omega
     rw[h1,HSL.out,HK2.out,List.take_left]
    have HCH:Hid ((s.extract at_ (at_+(aag k).size)).data.toList=enc p):=hch
    clear hch
    gi_wp2
    refine⟨trivial,(callsIn_wide.2 (pointOf_any (s.extract at_ (at_+(aag k).size)) p hp HCH.out w4 ht4)).mono ?_⟩
    rintro e w5 ⟨rfl,hb5⟩
    have hB5:Blk w5 Bs 9 #[.string s]:=hB4.below hb5 hB4.lt
    have hr5:=hr4.below hb5 hr4.lt
    have hg5:Below wr.heap.size wr w5:=hg4.trans (hb5.mono hg4.size)
    have hJ5:J (pl 0 ps1) w5:=hJ _ wr w5 none hJs (agl hg5) (by simp)
    have hpre:pl 0 ps1++[(at_,(p:Int))]=pl 0 (ps1++[p]):=by rw[pl_append,Hat.out];simp[pl]
    have hfull:pl 0 (ps1++[p]) <+: full ps rest:=by rw[HP'.out,show ps1++p::ps2=(ps1++[p])++ps2 by simp];exact full_prefix _ _ _
    obtain⟨fn,tmps,assign,body,hy,hR⟩:=hY (pl 0 ps1) (at_,(p:Int)) w5 hJ5 (by have:=hfull.length_le;rw[←hpre] at this;simp at this;omega)
    dsimp only at hy
    clear c4 r44
    gi_wp2
    refine hR.mono ?_
    rintro e W6 (⟨rfl,hJ6,hk6⟩ | ⟨rfl,hJx6⟩)
    ·have hB6:=hk6.2 _ _ _ (.inr rfl) hB5
     have hr6:=hk6.2 _ _ _ (.inl rfl) hr5
     have r64:=hr6.cell 4
     simp only[List.getElem?_toArray,List.getElem?_cons_zero,List.getElem?_cons_succ] at r64
     rw[hpre] at hJ6
     have hb6:Below n₀ W W6:=(hbel.trans (hg5.mono (Nat.le_trans hnW hbel.size))).trans hk6.1
     have HL:Hid ((ac5 (ps1++[p])).length=at_+(aag k).size):=by show _=_;rw[abu,List.length_append,Hat.out,HK2.out];simp[ac5]
     gi_wp2
     go_roundw
     case rel=>exact⟨ps1++[p],ps2,by rw[HP'.out];simp,by rw[HL.out];go_num,hJ6,hB6,hb6⟩
     case measure=>simp[intOf];omega
    ·gi_wp2
     refine bodyPost_ret (results_none rfl _ _ _) rfl ?_
     exact⟨⟨_,rfl⟩,.inr ⟨_,hpre▸hfull,hJx6⟩⟩
  ·have hend:ps2=[]∧rest=[]:=by
    have h1:(ac5 ps2++rest).length=0:=by
     have:=Lib.size_eq s
     rw[HS.out,HP,abu,List.append_assoc,List.length_append,←hat] at this
     omega
    have h2:=abk ps2
    rw[List.length_append] at h1
    exact⟨List.eq_nil_of_length_eq_zero (by omega),List.eq_nil_of_length_eq_zero (by omega)⟩
   obtain⟨h1,h2⟩:=hend
   have Hat:Hid (at_=(ac5 ps1).length):=hat
   have HP':Hid (ps=ps1++ps2):=HP
   clear hat HP
   gi_wp2
   go_end0
   refine⟨⟨_,rfl⟩,.inl ⟨_,rfl,?_⟩⟩
   rw[h2,full_nil,HP'.out,h1,List.append_nil]
   exact hJs
attribute [local go_sem] Oper.semAt_some
theorem chars_stops (n:Nat)(hn:1≤n)(Bs n₀:Nat)(hn₀:2≤n₀)(s:ByteArray)(hsz:s.size≤4294967296)(ps:List Nat)(rest:List UInt8)(hs:s.data.toList=ac5 ps++rest)(hps: ∀p∈ps,ag9 p)(hrest:rest=[]∨ag7 rest)
  (w:World) (hnw:n₀≤w.heap.size) (hBs:Blk w Bs 9 #[.string s]) (ht:Tabs w):
  SeqStopsK Fence.wide n Tryz.prog 130 #[.pointer (some ⟨Bs,0,none⟩)] (fun x:Nat×Int=> #[Value.int .i64 (x.1:Int),Value.int .i64 x.2]) (Kpt n₀) (fun ys=>ys=full ps rest) (fun pre=>pre <+: full ps rest) (full ps rest).length w:=fun l J Jx W hW hJ _ hY h0=>
 chars1_in n hn l Bs n₀ hn₀ s hsz ps rest hs hps hrest J Jx W hJ hY (hBs.below hW hBs.lt) (ht.own hW) h0 (Nat.le_trans hnw hW.size)
def chkOf (ps:List Nat)(rest:List UInt8):Int:=if rest=[] then -1 else ((ac5 ps).length:Int)
attribute [local go_sem] Oper.semAt_some
theorem pts_appended {W w1:World}{n₁ B:Nat}{v v':Value}{k m:Nat}{xs ys:List Value}{tmp:Obj}
  (hv:Boxed W B 90 v) (hB:B<n₁) (hrow:W.ownsRow n₁ 3 1 v k xs) (hn₁:n₁≤W.heap.size)
  (hown':w1.ownsRow n₁ 3 1 v' m ys) (hgrow:(W.alloc tmp).grownBy w1 v.ownBlock):
  Boxed w1 B 90 v∧Boxed (w1.setCell ⟨B,0,none⟩ v') B 90 v'∧(w1.setCell ⟨B,0,none⟩ v').ownsRow n₁ 3 1 v' m ys∧KeepsOthers W (w1.setCell ⟨B,0,none⟩ v')∧Below B W (w1.setCell ⟨B,0,none⟩ v')∧
   (∀j t cs,t=214∨t=9→Blk W j t cs→Blk (w1.setCell ⟨B,0,none⟩ v') j t cs)∧n₁≤(w1.setCell ⟨B,0,none⟩ v').heap.size:=by
 have hkeep: ∀(j:Nat) (t:TypeId) (cs:Array Value),some j≠v.ownBlock→Blk W j t cs→Blk w1 j t cs:=fun j t cs hne hj=>
  (hgrow.block j (by have:=hj.lt;simp;omega) hne).trans ((Below.heap_alloc W tmp j hj.lt).trans hj)
 have hv1:Boxed w1 B 90 v:=hkeep B 90 #[v] (fun e=>by have:=(aah hrow e.symm).1;omega) hv
 have hne:v'.ownBlock≠some B:=fun e=>by have:=(aah hown' e).1;omega
 refine⟨hv1,hv1.set v',hown'.kept (grownBy_setCell' w1 B v') (.inr hne),?_,?_,fun j t cs ht hj=> ?_,?_⟩
 ·refine((KeepsOthers.alloc W tmp).trans (KeepsOthers.of_grownBy hgrow fun j o ej hj=> ?_)).trans (KeepsOthers.setCell _ _ _)
  obtain⟨_,cs,f,h3⟩:=aah (hrow.alloc tmp) ej
  rw[h3] at hj;cases hj;rfl
 ·refine(((Below.refl B W).alloc (by omega) tmp).grown hgrow (by simp;omega) fun j ej=> ?_).setCell (p:=⟨B,0,none⟩) (Nat.le_refl _) v'
  have:=(aah hrow ej).1
  omega
 ·have hjB:j≠B:=by
   rintro rfl
   have:=(show W.heap[j]? =_ from hj).symm.trans hv
   simp only[Option.some.injEq,Obj.cells.injEq] at this
   have h25:=this.2.1
   rcases ht with rfl | rfl<;>cases h25
  have h1:Blk w1 j t cs:=hkeep j t cs (fun e=>by
   obtain⟨_,cs',f,h3⟩:=aah hrow e.symm
   have:=(show W.heap[j]? =_ from hj).symm.trans h3
   simp only[Option.some.injEq,Obj.cells.injEq] at this
   have h3:=this.2.1
   rcases ht with rfl | rfl<;>cases h3) hj
  exact(Below.heap_setCell w1 ⟨B,0,none⟩ v' j hjB).trans h1
 ·have:=hgrow.size
  simp at this⊢
  omega
theorem aes (W:World)(t:TypeId)(v:Value)(B:Nat)(hB:B=W.heap.size):Boxed (W.alloc (.cells #[v] t)) B t v:=by subst hB;exact Boxed.new W t v
def PtsPost (ps:List Nat)(rest:List UInt8)(w:World)(e:Ending)(w':World):Prop:=
 (rest=[]∧ ∃v,e=.returned (.tuple #[v,.int .i64 0,.int .i64 0])∧IOwn w' w.heap.size v (ps.map fun p:Nat=>(p:Int)))∨
 (rest≠ []∧e=.returned (.tuple #[.slice none 0 0,.int .i64 30,.int .i64 ((ac5 ps).length:Int)]))
set_option maxRecDepth 100000 in
set_option maxHeartbeats 2000000 in
theorem points_any (s:ByteArray)(hsz:s.size≤4294967296)(ps:List Nat)(rest:List UInt8)(hs:s.data.toList=ac5 ps++rest)(hps: ∀p∈ps,ag9 p)(hrest:rest=[]∨ag7 rest)(w:World)(ht:Tabs w):
  Calls Tryz.prog 36 #[.string s] w fun e w'=>PtsPost ps rest w e w'∧Below w.heap.size w w':=by
 obtain⟨i0,hi,hz0,hz1,hz2⟩:=info_parts info3
 have hN:(full ps rest).length≤s.size:=by rw[Lib.size_eq,hs];exact full_length _ _
 refine(callsIn_wide (n:=3)).1 ?_
 refine callsIn_of_wp_marks Tryz.func36 rfl trivial ?_ rfl
 simp only[Tryz.ntmps36,List.size_toArray,List.length_cons,List.length_nil,Nat.reduceAdd,Nat.reduceSub,Array.replicate_succ,Array.replicate_zero,List.push_toArray,List.append_toArray,List.nil_append,List.cons_append]
 gi_wp2
 refine⟨trivial,(chars_in _ s _).mono ?_⟩
 rintro e w' ⟨rfl,rfl⟩
 gi_wp2
 obtain⟨h,hh⟩: ∃h,h=w.heap.size:=⟨_,rfl⟩
 obtain⟨W0,hW0⟩: ∃W0,W0=((((w.alloc (.cells #[.slice none 0 0] 90)).alloc (.cells #[.int .i64 0] 23)).alloc (.cells #[.int .i64 0] 3)).alloc (.cells #[.slice none 0 0] 90)).alloc (.cells #[.string s] 9):=⟨_,rfl⟩
 have hsz0:W0.heap.size=h+5:=by rw[hW0,hh];simp
 have b0:Boxed W0 h 90 (.slice none 0 0):=by rw[hW0,hh];exact((((aes w 90 (.slice none 0 0) _ rfl).alloc _).alloc _).alloc _).alloc _
 have b1:Boxed W0 (h+1) 23 (.int .i64 0):=by rw[hW0,hh];exact(((aes (w.alloc _) 23 (.int .i64 0) _ (by simp)).alloc _).alloc _).alloc _
 have b2:Boxed W0 (h+1+1) 3 (.int .i64 0):=by rw[hW0,hh];exact((aes ((w.alloc _).alloc _) 3 (.int .i64 0) _ (by simp)).alloc _).alloc _
 have b3:Boxed W0 (h+1+1+1) 90 (.slice none 0 0):=by rw[hW0,hh];exact(aes (((w.alloc _).alloc _).alloc _) 90 (.slice none 0 0) _ (by simp)).alloc _
 have b4:Blk W0 (h+1+1+1+1) 9 #[.string s]:=by rw[hW0,hh];exact aes ((((w.alloc _).alloc _).alloc _).alloc _) 9 (.string s) _ (by simp)
 have hB0:Below h w W0:=by
  rw[hW0,hh]
  exact(((((Below.refl _ w).alloc (Nat.le_refl _) _).alloc (by simp) _).alloc (by simp;omega) _).alloc (by simp;omega) _).alloc (by simp;omega) _
 rw[←hW0,←hh]
 have h2h:2≤h:=by rw[hh];exact ht.size
 have ht0:Tabs W0:=ht.below h2h hB0
 have HH:Hid (h=w.heap.size):=hh
 have HS:Hid (s.data.toList=ac5 ps++rest):=hs
 clear hh hs hW0
 refine wpIn_rangeFunc_ownG (F:=Fence.wide) rfl (by decide) (gf:=130) (lb:= #[.pointer (some ⟨h+1+1+1+1,0,none⟩)]) rfl trivial (enters_of Tryz.func130 (by kernel_rfl) rfl)
  (chars_stops (3-1) (by decide) (h+1+1+1+1) h h2h s hsz ps rest HS.out hps hrest _ (by omega) b4 ht0) Kpt.trans (Kpt.putObj (by omega)) (Below.refl _ _) (fun _=>rfl)
  (fun pre W=>(∀p∈pre,p.2≠ -1)∧(∃v,Boxed W (h+1+1+1) 90 v∧W.ownsRow (h+5) 3 1 v pre.length ((pre.map (·.2)).map (Value.int .i64))∧True)∧Boxed W h 90 (.slice none 0 0)∧Boxed W (h+1) 23 (.int .i64 0)∧Boxed W (h+1+1) 3 (.int .i64 0)∧(Below h w W∧Below h W0 W))
  (fun c pre W=>(c=.ret∧ ∃ini last,pre=ini++[last]∧last.2= -1∧W.cell? ⟨h,0,none⟩=some (.slice none 0 0)∧W.cell? ⟨h+1,0,none⟩=some (.int .i64 30)∧W.cell? ⟨h+1+1,0,none⟩=some (.int .i64 (last.1:Int)))∧Below h w W)
  (OwnFrom.and (ownFrom_pure _ _) (OwnFrom.and (Own.from (holdsRow_own (h+5) (h+1+1+1) 90 3 1 (fun pre:List (Nat×Int)=>pre.length) (fun pre=>(pre.map (·.2)).map (Value.int .i64)) (fun _ _=>True)) _)
   (OwnFrom.and (Own.from (boxed_own _ _ _) _) (OwnFrom.and (Own.from (boxed_own _ _ _) _) (OwnFrom.and (Own.from (boxed_own _ _ _) _) (OwnFrom.and (ownFrom_below (by rw[HH.out];exact Nat.le_refl _) (by omega)) (ownFrom_below (by omega) (by omega))))))))
  (fun c=>OwnFrom.and (Own.from (fun s A B row hs hg hr=>by obtain⟨hc,ini,last,e1,e2,e3,e4,e5⟩:=hs;exact⟨hc,ini,last,e1,e2,cell_kept e3 hg hr,cell_kept e4 hg hr,cell_kept e5 hg hr⟩) _) (ownFrom_below (by rw[HH.out];exact Nat.le_refl _) (by omega)))
  ⟨by simp,⟨_,b3,World.ownsRow_nil _ _ _ _,trivial⟩,b0,b1,b2,hB0,Below.refl _ _⟩
  (fun x=> {tmps:= #[.string s,undef,.pointer (some ⟨h,0,none⟩),.pointer (some ⟨h+1,0,none⟩),.pointer (some ⟨h+1+1,0,none⟩),.pointer (some ⟨h+1+1+1,0,none⟩),.int .i64 (x.1:Int),.int .i64 x.2,.string s,.func (.func 130) #[] #[.pointer (some ⟨h+1+1+1+1,0,none⟩)],.int .i64 (x.1:Int),.int .i64 x.2,undef,undef,undef,undef,undef,undef,undef,undef],defers:=[]}) ?assign ?body ?done ?stop
 case assign=>
  intro l x W K hK
  gi_wp2
  exact hK
 case body=>
  rintro l pre x W ⟨hp,⟨v,hv,hrow,_⟩,x0,x1,x2,hB,hB2⟩ hlt
  have hc:=hv.cell
  have c0:=x0.cell
  have c1:=x1.cell
  have c2:=x2.cell
  have f0:=x0.frozen
  have f1:=x1.frozen
  have f2:=x2.frozen
  have hW5:h+5≤W.heap.size:=by have:=hB2.size;omega
  gi_wp2_with (gi_at_builtin;refine wpListIn_append_own _ rfl _ _ 90 rfl (h+5) 3 i0 (.int .i64 0) 1 8 Tryz.underlying90 hi hz0 hz1 hz2 rfl (by decide) _ _ _ rfl (hrow.alloc _) ⟨W.heap.size,0,none⟩ 1 1 [.int .i64 x.2] rfl rfl (cell_one_new _ _ _) (by simp[Value.oneCell']) (by unfold maxLen;omega) (by omega) (by simp;omega) ?_;intro v' w1 hown' hgrow _;obtain⟨g',cap',rfl⟩:=ownsRow_succ hown';obtain⟨hv1,hv2,hr2,hk2,hb2,hkp2,_⟩:=pts_appended hv (by omega) hrow hW5 hown' hgrow;have hc1:=hv1.cell;have hf1:=hv1.frozen)
  ·rename_i hx
   have hx:x.2= -1:=eq_of_beq hx
   have y0:=((x0.set (.slice none 0 0)).other (B':=h+1) (by omega) (.int .i64 30)).other (B':=h+1+1) (by omega) (.int .i64 (x.1:Int))
   have y1:=((x1.other (B':=h) (by omega) (.slice none 0 0)).set (.int .i64 30)).other (B':=h+1+1) (by omega) (.int .i64 (x.1:Int))
   have y2:=((x2.other (B':=h) (by omega) (.slice none 0 0)).other (B':=h+1) (by omega) (.int .i64 30)).set (.int .i64 (x.1:Int))
   exact⟨(((KeepsOthers.setCell _ _ _).trans (KeepsOthers.setCell _ _ _)).trans (KeepsOthers.setCell _ _ _)).from _,⟨rfl,pre,x,rfl,hx,y0.cell,y1.cell,y2.cell⟩,
    ((hB.setCell (p:=⟨h,0,none⟩) (Nat.le_refl _) _).setCell (p:=⟨h+1,0,none⟩) (by show h≤h+1;omega) _).setCell (p:=⟨h+1+1,0,none⟩) (by show h≤h+1+1;omega) _⟩
  ·have hx: ¬x.2= -1:=by
    intro h
    have:(x.2== -1)=false:=by first | assumption | (simp_all)
    rw[h] at this
    exact absurd this (by decide)
   have hb3:=hb2.mono (show h≤h+1+1+1 by omega)
   exact⟨hk2.from _,⟨hb3,hkp2⟩,fun p hp'=>(List.mem_append.1 hp').elim (hp p) (fun e=>by simp at e;subst e;exact hx),⟨_,hv2,by simpa using hr2,trivial⟩,
    (hb2.block h (by omega)).trans x0,(hb2.block (h+1) (by omega)).trans x1,(hb2.block (h+1+1) (by omega)).trans x2,hB.trans hb3,hB2.trans hb3⟩
 case done=>
  rintro D ys W hD rfl ⟨hne,⟨v,hv,hrow,_⟩,x0,x1,x2,hB,hB2⟩ hK
  have hr:rest=[]:=Classical.byContradiction fun h=>by
   rw[full_broken _ h] at hne
   exact hne _ (List.mem_append.2 (.inr (List.mem_singleton.2 rfl))) rfl
  have hrow2:W.ownsRow (h+5) 3 1 v (ps.map fun p:Nat=>(p:Int)).length ((ps.map fun p:Nat=>(p:Int)).map (Value.int .i64)):=by
   have e:(full ps rest).map (·.2)=ps.map fun p:Nat=>(p:Int):=by rw[hr,full_nil,pl_snd]
   have e2:(full ps rest).length=(ps.map fun p:Nat=>(p:Int)).length:=by rw[←e,List.length_map]
   rw[e,e2] at hrow
   exact hrow
  have hv0: ∃a len cap,v=.slice a len cap:=by
   rcases hrow.2 with ⟨rfl,_⟩ | ⟨g,cap,cur,rfl,_⟩
   ·exact⟨_,_,_,rfl⟩
   ·exact⟨_,_,_,rfl⟩
  have hne5: ∀B,B<h+5→v.ownBlock≠some B:=fun B hlt e=>by have:=(aah hrow2 e).1;omega
  obtain⟨zs,hzs⟩: ∃zs,zs=ps.map fun p:Nat=>(p:Int):=⟨_,rfl⟩
  rw[←hzs] at hrow2
  have HZ:Hid (zs=ps.map fun p:Nat=>(p:Int)):=hzs
  clear hzs hrow
  obtain⟨a,len,cap,rfl⟩:=hv0
  have y0:=((x0.set (.slice a len cap)).other (B':=h+1) (by omega) (.int .i64 0)).other (B':=h+1+1) (by omega) (.int .i64 0)
  have y1:=((x1.other (B':=h) (by omega) (.slice a len cap)).set (.int .i64 0)).other (B':=h+1+1) (by omega) (.int .i64 0)
  have y2:=((x2.other (B':=h) (by omega) (.slice a len cap)).other (B':=h+1) (by omega) (.int .i64 0)).set (.int .i64 0)
  have hrow3:=ownsRow_setCell_other (ownsRow_setCell_other (ownsRow_setCell_other hrow2 (a:=⟨h,0,none⟩) (hne5 h (by omega)) (.slice a len cap)) (a:=⟨h+1,0,none⟩) (hne5 (h+1) (by omega)) (.int .i64 0)) (a:=⟨h+1+1,0,none⟩) (hne5 (h+1+1) (by omega)) (.int .i64 0)
  have hB3:=((hB.setCell (p:=⟨h,0,none⟩) (Nat.le_refl _) (.slice a len cap)).setCell (p:=⟨h+1,0,none⟩) (by show h≤h+1;omega) (.int .i64 0)).setCell (p:=⟨h+1+1,0,none⟩) (by show h≤h+1+1;omega) (.int .i64 0)
  have hK':=(((KeepsOthers.setCell W ⟨h,0,none⟩ (.slice a len cap)).trans (KeepsOthers.setCell _ ⟨h+1,0,none⟩ (.int .i64 0))).trans (KeepsOthers.setCell _ ⟨h+1+1,0,none⟩ (.int .i64 0))).same D _ hK rfl
  have hc:=hv.cell
  have c0:=x0.cell
  have c1:=x1.cell
  have c2:=x2.cell
  have f0:=x0.frozen
  have f1:=x1.frozen
  have f2:=x2.frozen
  gi_wp2
  refine⟨by simp,.inl ⟨_,_,rfl,run_takeDeferred hK',?_⟩⟩
  have k0:=cell_kept y0.cell (grownBy_putObj' _ D (.deferred none)) (fun r e=>by cases e;exact⟨_,hK',rfl⟩)
  have k1:=cell_kept y1.cell (grownBy_putObj' _ D (.deferred none)) (fun r e=>by cases e;exact⟨_,hK',rfl⟩)
  have k2:=cell_kept y2.cell (grownBy_putObj' _ D (.deferred none)) (fun r e=>by cases e;exact⟨_,hK',rfl⟩)
  refine⟨.tuple #[.slice a len cap,.int .i64 0,.int .i64 0],?_,.inl ⟨hr,_,rfl,?_⟩,?_⟩
  ·simp[results,Tryz.f36,go_sem,k0,k1,k2]
  ·rw[←HZ.out]
   exact aae (ownsRow_putObj hrow3 _ hK' rfl) (by rw[←HH.out];omega)
  ·rw[←HH.out]
   exact hB3.trans (belowK_b (w:=w) (by rw[HH.out];exact Nat.le_refl _) _ D _ _ (by rw[←HH.out];omega) hK' rfl rfl)
 case stop=>
  rintro D c pre W hD hpre ⟨⟨rfl,ini,last,e1,e3,q0,q1,q2⟩,hB⟩ hK
  rw[e1] at hpre
  obtain⟨hr,hl,_⟩:=full_end hpre e3
  have k0:=cell_kept q0 (grownBy_putObj' _ D (.deferred none)) (fun r e=>by cases e;exact⟨_,hK,rfl⟩)
  have k1:=cell_kept q1 (grownBy_putObj' _ D (.deferred none)) (fun r e=>by cases e;exact⟨_,hK,rfl⟩)
  have k2:=cell_kept q2 (grownBy_putObj' _ D (.deferred none)) (fun r e=>by cases e;exact⟨_,hK,rfl⟩)
  gi_wp2
  refine⟨by simp,.inl ⟨_,_,rfl,run_takeDeferred hK,?_⟩⟩
  refine⟨.tuple #[.slice none 0 0,.int .i64 30,.int .i64 (last.1:Int)],?_,.inr ⟨hr,by rw[hl]⟩,?_⟩
  ·simp[results,Tryz.f36,go_sem,k0,k1,k2]
  ·rw[←HH.out]
   exact hB.trans (belowK_b (w:=w) (by rw[HH.out];exact Nat.le_refl _) _ D _ _ (by rw[←HH.out];omega) hK rfl rfl)
end Go.Proofs.YtpfkoldfbecdlaaGreatDoor
namespace Go.Proofs.YtpfkoldfbecdlaaGreatDoor
open Go.RowKit Go.Vf
def longN (c:Nat):Nat:=match adm c with
 | some k=>(aag k).size
 | none=>0
theorem longN_cases (c:Nat):(c≤127∧longN c=1)∨(194≤c∧c≤223∧longN c=2)∨(224≤c∧c≤239∧longN c=3)∨(240≤c∧c≤244∧longN c=4)∨((127<c∧c<194∨244<c)∧longN c=0):=by
 unfold longN
 cases h:adm c with
 | none=>
  refine .inr (.inr (.inr (.inr ⟨?_,rfl⟩)))
  refine Classical.byContradiction fun hn=> ?_
  have hc: ∃k,k<9∧(aag k).first≤c∧c≤(aag k).last:=by
   have:c≤127∨(194≤c∧c≤223)∨c=224∨(225≤c∧c≤236)∨c=237∨(238≤c∧c≤239)∨c=240∨(241≤c∧c≤243)∨c=244:=by omega
   rcases this with h | h | h | h | h | h | h | h | h
   ·exact⟨0,by decide,by simp only[aag];omega,by simp only[aag];omega⟩
   ·exact⟨1,by decide,by simp only[aag];omega,by simp only[aag];omega⟩
   ·exact⟨2,by decide,by simp only[aag];omega,by simp only[aag];omega⟩
   ·exact⟨3,by decide,by simp only[aag];omega,by simp only[aag];omega⟩
   ·exact⟨4,by decide,by simp only[aag];omega,by simp only[aag];omega⟩
   ·exact⟨5,by decide,by simp only[aag];omega,by simp only[aag];omega⟩
   ·exact⟨6,by decide,by simp only[aag];omega,by simp only[aag];omega⟩
   ·exact⟨7,by decide,by simp only[aag];omega,by simp only[aag];omega⟩
   ·exact⟨8,by decide,by simp only[aag];omega,by simp only[aag];omega⟩
  obtain⟨k,hk,h1,h2⟩:=hc
  rw[agt hk h1 h2] at h
  cases h
 | some k=>
  obtain⟨hk,h1,h2⟩:=rowB_lt h
  rcases acd hk with rfl | rfl | rfl | rfl | rfl | rfl | rfl | rfl | rfl<;>simp only[aag] at h1 h2<;>
   first | exact .inl ⟨by omega,rfl⟩ | exact .inr (.inl ⟨by omega,by omega,rfl⟩) | exact .inr (.inr (.inl ⟨by omega,by omega,rfl⟩)) | exact .inr (.inr (.inr (.inl ⟨by omega,by omega,rfl⟩)))
set_option maxHeartbeats 400000 in
theorem long_any (c:Nat)(w:World):Calls Tryz.prog 139 #[.int .i64 (c:Int)] w fun e w'=>e=.returned (.int .i64 (longN c:Int))∧w=w':=by
 rcases longN_cases c with ⟨h1,e⟩ | ⟨h1,h2,e⟩ | ⟨h1,h2,e⟩ | ⟨h1,h2,e⟩ | ⟨h1,e⟩
 ·rw[e]
  go_enter Tryz.func139,Tryz.ntmps139
  go_wp2
  go_ret
  exact⟨rfl,rfl⟩
 ·rw[e]
  have a1: ¬c≤127:=by omega
  clear e
  go_enter Tryz.func139,Tryz.ntmps139
  go_wp2
  go_ret
  exact⟨rfl,rfl⟩
 ·rw[e]
  have a1: ¬c≤127:=by omega
  have a2: ¬c≤223:=by omega
  clear e
  go_enter Tryz.func139,Tryz.ntmps139
  go_wp2
  go_ret
  exact⟨rfl,rfl⟩
 ·rw[e]
  have a1: ¬c≤127:=by omega
  have a2: ¬c≤223:=by omega
  have a3: ¬c≤239:=by omega
  clear e
  go_enter Tryz.func139,Tryz.ntmps139
  go_wp2
  go_ret
  exact⟨rfl,rfl⟩
 ·rw[e]
  have a1: ¬c≤127:=by omega
  clear e
  rcases h1 with ⟨_,h1⟩ | h1
  ·have a2: ¬194≤c:=by omega
   have a3: ¬224≤c:=by omega
   have a4: ¬240≤c:=by omega
   go_enter Tryz.func139,Tryz.ntmps139
   go_wp2
   go_ret
   exact⟨rfl,rfl⟩
  ·have a2: ¬c≤223:=by omega
   have a3: ¬c≤239:=by omega
   have a4: ¬c≤244:=by omega
   go_enter Tryz.func139,Tryz.ntmps139
   go_wp2
   go_ret
   exact⟨rfl,rfl⟩
theorem second_any (c b k:Nat)(hk:adm c=some k)(hz:2≤(aag k).size)(w:World):
  Calls Tryz.prog 140 #[.int .i64 (c:Int),.int .i64 (b:Int)] w fun e w'=>e=.returned (.bool (decide ((aag k).low≤b)&&decide (b≤(aag k).high)))∧w=w':=by
 obtain⟨hk9,h1,h2⟩:=rowB_lt hk
 obtain⟨R,HR⟩: ∃R,Hid (R=(decide ((aag k).low≤b)&&decide (b≤(aag k).high))):=⟨_,rfl⟩
 rw[←HR.out]
 have fin: ∀(lo hi:Nat),(aag k).low=lo→(aag k).high=hi→R=(decide (lo≤b)&&decide (b≤hi)):=fun lo hi e1 e2=>by rw[HR.out,e1,e2]
 have hcase:(c≠0xe0∧c≠0xed∧c≠0xf0∧c≠0xf4∧(aag k).low=128∧(aag k).high=191)∨(c=0xe0∧(aag k).low=160∧(aag k).high=191)∨(c=0xed∧(aag k).low=128∧(aag k).high=159)∨(c=0xf0∧(aag k).low=144∧(aag k).high=191)∨(c=0xf4∧(aag k).low=128∧(aag k).high=143):=by
  rcases acd hk9 with rfl | rfl | rfl | rfl | rfl | rfl | rfl | rfl | rfl<;>simp only[aag] at h1 h2 hz<;>
   first | omega | exact .inl ⟨by omega,by omega,by omega,by omega,rfl,rfl⟩ | exact .inr (.inl ⟨by omega,rfl,rfl⟩) | exact .inr (.inr (.inl ⟨by omega,rfl,rfl⟩)) | exact .inr (.inr (.inr (.inl ⟨by omega,rfl,rfl⟩))) | exact .inr (.inr (.inr (.inr ⟨by omega,rfl,rfl⟩)))
 clear HR h1 h2 hk hz
 rcases hcase with ⟨n1,n2,n3,n4,e1,e2⟩ | ⟨rfl,e1,e2⟩ | ⟨rfl,e1,e2⟩ | ⟨rfl,e1,e2⟩ | ⟨rfl,e1,e2⟩
 ·have hR:=fin _ _ e1 e2
  have m1:((c:Int)==224)=false:=by simp;omega
  have m2:((c:Int)==237)=false:=by simp;omega
  have m3:((c:Int)==240)=false:=by simp;omega
  have m4:((c:Int)==244)=false:=by simp;omega
  clear fin e1 e2
  by_cases l1:128≤b<;>by_cases l2:b≤191<;>
  ·go_enter Tryz.func140,Tryz.ntmps140
   go_wp2
   all_goals go_ret
   all_goals exact⟨by first | rfl | (rw[hR];simp[l1,l2];done) | (rw[hR];simp[l1,l2];omega),rfl⟩
 all_goals
  have hR:=fin _ _ e1 e2
  clear fin e1 e2
 ·by_cases l1:160≤b<;>by_cases l2:b≤191<;>
  ·go_enter Tryz.func140,Tryz.ntmps140
   go_wp2
   all_goals go_ret
   all_goals exact⟨by first | rfl | (rw[hR];simp[l1,l2];done) | (rw[hR];simp[l1,l2];omega),rfl⟩
 ·by_cases l1:128≤b<;>by_cases l2:b≤159<;>
  ·go_enter Tryz.func140,Tryz.ntmps140
   go_wp2
   all_goals go_ret
   all_goals exact⟨by first | rfl | (rw[hR];simp[l1,l2];done) | (rw[hR];simp[l1,l2];omega),rfl⟩
 ·by_cases l1:144≤b<;>by_cases l2:b≤191<;>
  ·go_enter Tryz.func140,Tryz.ntmps140
   go_wp2
   all_goals go_ret
   all_goals exact⟨by first | rfl | (rw[hR];simp[l1,l2];done) | (rw[hR];simp[l1,l2];omega),rfl⟩
 ·by_cases l1:128≤b<;>by_cases l2:b≤143<;>
  ·go_enter Tryz.func140,Tryz.ntmps140
   go_wp2
   all_goals go_ret
   all_goals exact⟨by first | rfl | (rw[hR];simp[l1,l2];done) | (rw[hR];simp[l1,l2];omega),rfl⟩
def oneN (l:List UInt8):Nat×Nat:=match adm (l[0]?.getD 0).toNat with
 | some k=>if abg k l then (aga (l.take (aag k).size) (aag k).size,(aag k).size) else (0,0)
 | none=>(0,0)
theorem oneN_enc {p:Nat}(hp:ag9 p)(t:List UInt8):oneN (enc p++t)=(p,(enc p).length):=by
 obtain⟨k,hk,h1,_,h2,h3,h4⟩:=enc_row hp t
 have h0:(enc p++t)[0]?.getD 0=(enc p)[0]?.getD 0:=by rw[List.getElem?_append_left (agp p)]
 unfold oneN
 rw[h0,h1]
 simp only[h3,if_true]
 rw[h2,List.take_left,h4]
theorem oneN_none {l:List UInt8}(h:ag7 l):oneN l=(0,0):=by
 unfold oneN
 cases hr:adm (l[0]?.getD 0).toNat with
 | none=>rfl
 | some k=>simp[h.2 k hr]
theorem tail_all {l:List UInt8}{z:Nat}(h:z≤l.length):((l.take z).drop 2).all ae8=true↔ ∀i,2≤i→i<z→ae8 (l[i]?.getD 0)=true:=by
 have hi: ∀i,2≤i→i<z→((l.take z).drop 2)[i-2]? =l[i]?:=fun i h1 h2=>by
  rw[List.getElem?_drop,List.getElem?_take,if_pos (by omega)]
  congr 1
  omega
 rw[List.all_eq_true]
 constructor
 ·intro ha i h1 h2
  have hm:l[i]?.getD 0∈(l.take z).drop 2:=by
   have h3:=hi i h1 h2
   rw[List.getElem?_eq_getElem (show i<l.length by omega)] at h3
   rw[List.getElem?_eq_getElem (show i<l.length by omega)]
   exact List.mem_of_getElem? h3
  exact ha _ hm
 ·intro ha x hx
  obtain⟨n,hn,rfl⟩:=List.mem_iff_getElem.1 hx
  have hlen:n+2<z:=by simp at hn;omega
  have:=ha (n+2) (by omega) hlen
  have h3:=hi (n+2) (by omega) hlen
  rw[Nat.add_sub_cancel,List.getElem?_eq_getElem hn] at h3
  rw[←h3] at this
  exact this
theorem ab3 {tmps:Array Value}{w:World}{a b:Int}(t4:tmps[4]?.getD undef=.int .i64 a)(t5:tmps[5]?.getD undef=.int .i64 b):
  (results Tryz.f91 tmps).run Tryz.prog w=.ok (.tuple #[.int .i64 a,.int .i64 b]) w:=by
 simp[results,Tryz.results91,go_sem,t4,t5]
end Go.Proofs.YtpfkoldfbecdlaaGreatDoor
