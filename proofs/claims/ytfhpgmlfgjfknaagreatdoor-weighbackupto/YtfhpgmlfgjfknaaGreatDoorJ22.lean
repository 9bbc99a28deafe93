/- Contracts and lemmas (nothing is claimed here). -/
import Derived.Test.YtfhpgmlfgjfknaaGreatDoorJ21
namespace Go.Proofs.YtfhpgmlfgjfknaaGreatDoor
open Go.RowKit Go.Vf Go.Maps
theorem ajo (base:Nat)(a:Option Addr)(n c:Nat)(acc:List UInt8)(w:World)(hown:BOwn 5 w base (.slice a n c) acc)(hlen:acc.length≤1099511627776)(hbase:base≤w.heap.size)(bs:List UInt8)(h1:1≤bs.length)(h2:bs.length≤16):
  ∃a' c' w',(Builtin.append_ #[74,74] 74 #[.slice a n c,.slice (some ⟨w.heap.size,0,none⟩) bs.length bs.length]).run Tryz.prog (w.alloc (.cells (aa7 bs).toArray 5))=.ok (.slice a' (acc.length+bs.length) c') w'∧BOwn 5 w' base (.slice a' (acc.length+bs.length) c') (acc++bs)∧Below base w w'∧base≤w'.heap.size∧KO w w':=by
 obtain⟨i,hi,hz,hsz,hby⟩:=info_parts a0k
 have hnb:=Blk.new w 5 (aa7 bs).toArray
 have hcl:(aa7 bs).length=bs.length:=by simp[aa7]
 obtain⟨v',w',hrun,hown',hg,_,_⟩:=run_append_own_at (P:=Tryz.prog) (w.alloc (.cells (aa7 bs).toArray 5)) base 74 74 5 i _ 1 1 Tryz.underlying74 hi hz hsz hby rfl (by decide) _ _ _ (BOwn.alloc hown _) ⟨w.heap.size,0,none⟩ bs.length bs.length (aa7 bs) (by rw[hcl,Nat.mul_one])
  (by
   intro j u hu
   have e:(⟨w.heap.size,0,none⟩:Addr).add j=⟨w.heap.size,j,none⟩:=by
    unfold Addr.add
    split
    ·rename_i h;subst h;rfl
    ·simp
   rw[e,hnb.cell]
   simpa using hu)
  (by intro u hu;simp[aa7] at hu;obtain⟨b,_,rfl⟩:=hu;rfl) (by unfold maxLen;omega) (by omega) (by simp;omega)
 obtain⟨a',c',rfl⟩:=aax hown'
 refine⟨a',c',w',hrun,?_,?_,?_,?_⟩
 ·unfold BOwn
  have e1:aa7 (acc++bs)=aa7 acc++aa7 bs:=by simp[aa7]
  rw[e1,List.length_append]
  exact hown'
 ·exact((Below.refl base w).alloc hbase _).grown hg (by simp;omega) (fun k hk=>(World.ownsRow.lt (BOwn.alloc hown (.cells (aa7 bs).toArray 5)) k hk).1)
 ·have:=hg.size;simp at this;omega
 ·exact((KO.refl w).alloc _).trans (KO.grown (BOwn.alloc hown _) hg)
theorem afa {w:World}{b:Nat}{t:TypeId}{cs:Array Value}(h:Blk w b t cs)(o:Obj):Blk (w.alloc o) b t cs:=(Below.heap_alloc w o b h.lt).trans h
theorem ack (u:Nat)(hu:u≤1114111):(aae u).length≤1000:=by
 have h:=af4 u 6 (by omega) (by omega)
 unfold aae aa1 Lib.toUpperA
 simp
 omega
set_option maxHeartbeats 4000000 in
set_option maxRecDepth 20000 in
theorem aj4 (va:Bool)(pr se te base:Nat)(hpr:pr≤65535)(hse:se≤65535)(hte:te≤65535)(v:Value)(acc:List UInt8)(w:World)(hown:BOwn 5 w base v acc)(hacc:acc.length≤100000000)(hbase:base≤w.heap.size)(h6:8<base)(ht:w.cell? ⟨8,15,none⟩=some (.int .u8 4)):
  Calls Tryz.prog 162 #[v,.agg #[.bool va,.int .i64 (pr:Int),.int .i64 (se:Int),.int .i64 (te:Int)]] w fun e w'=> ∃v',e=.returned v'∧BOwn 5 w' base v' (acc++elP ⟨va,pr,se,te⟩)∧Below base w w'∧base≤w'.heap.size∧KO w w':=by
 obtain⟨a0,c0,rfl⟩:=abn hown
 have hB0:=Blk.new w 131 #[.bool va,.int .i64 (pr:Int),.int .i64 (se:Int),.int .i64 (te:Int)]
 have hb0:=(Below.refl base w).alloc hbase (.cells #[.bool va,.int .i64 (pr:Int),.int .i64 (se:Int),.int .i64 (te:Int)] 131)
 have ho0:=BOwn.alloc hown (.cells #[.bool va,.int .i64 (pr:Int),.int .i64 (se:Int),.int .i64 (te:Int)] 131)
 have hk0:=(KO.refl w).alloc (.cells #[.bool va,.int .i64 (pr:Int),.int .i64 (se:Int),.int .i64 (te:Int)] 131)
 have hs0:base≤(w.alloc (.cells #[.bool va,.int .i64 (pr:Int),.int .i64 (se:Int),.int .i64 (te:Int)] 131)).heap.size:=by simp;omega
 obtain⟨n0,hn0⟩: ∃n',acc.length=n':=⟨_,rfl⟩
 have HN0:Hid (acc.length=n0):=hn0
 rw[hn0] at ho0⊢
 clear hown hn0
 obtain⟨acc0,hacc0⟩: ∃acc0,acc0=acc:=⟨_,rfl⟩
 rw[←hacc0] at ho0 HN0 hacc
 have HA0:Hid (acc0=acc):=hacc0
 clear hacc0
 have q0:=hB0.cell 0
 cases va with
 | false=>
  go_enter Tryz.func162,Tryz.ntmps162
  go_upto_region 4 with fail
  generalize w.alloc (.cells #[.bool false,.int .i64 (pr:Int),.int .i64 (se:Int),.int .i64 (te:Int)] 131)=W0 at hB0 hb0 ho0 hk0 hs0 q0⊢
  generalize w.heap.size=B at hB0 q0⊢
  refine wp_region_held_drew (S:=fun x=>Blk x B 131 #[.bool false,.int .i64 (pr:Int),.int .i64 (se:Int),.int .i64 (te:Int)]) (by kernel_rfl) hB0 (fun hHeld=> ?_)
  have hd:Below base w W0.drew:=hb0.drew
  have hod:BOwn 5 W0.drew base (.slice a0 n0 c0) acc0:=ho0
  have hsd:base≤W0.drew.heap.size:=hs0
  have hkd:KO w W0.drew:=hk0
  generalize W0.drew=Wd at hHeld hd hod hsd hkd⊢
  clear ho0 hb0 hs0 hk0 hB0
  refine aac (i:=0) (some 8) (v:= ?v1) rfl rfl (by kernel_rfl) (by kernel_rfl) (by kernel_rfl) (fun _ _ _ h=>h) (Or.inl ⟨by kernel_rfl,?hy1⟩) (by assumption) ?rest1
  case hy1=>(intro x hSx;(try dsimp only at hSx);have s0:=hSx.cell 0;have s1:=hSx.cell 1;have s2:=hSx.cell 2;have s3:=hSx.cell 3;go_simp;first | done | with_reducible rfl)
  try simp only[Act.put,List.setIfInBounds_toArray,List.set_cons_zero,List.set_cons_succ]
  refine aac (i:=1) (some 9) (v:= ?v2) rfl rfl (by kernel_rfl) (by kernel_rfl) (by kernel_rfl) (fun _ _ _ h=>h) (Or.inl ⟨by kernel_rfl,?hy2⟩) (by assumption) ?rest2
  case hy2=>(intro x hSx;(try dsimp only at hSx);have s0:=hSx.cell 0;have s1:=hSx.cell 1;have s2:=hSx.cell 2;have s3:=hSx.cell 3;go_simp;first | done | with_reducible rfl)
  try simp only[Act.put,List.setIfInBounds_toArray,List.set_cons_zero,List.set_cons_succ]
  refine aac (i:=4) (some 12) (v:= ?v3) rfl rfl (by kernel_rfl) (by kernel_rfl) (by kernel_rfl) (fun _ _ _ h=>h) (Or.inl ⟨by kernel_rfl,?hy3⟩) (by assumption) ?rest3
  case hy3=>(intro x hSx;(try dsimp only at hSx);have s0:=hSx.cell 0;have s1:=hSx.cell 1;have s2:=hSx.cell 2;have s3:=hSx.cell 3;go_simp;first | done | with_reducible rfl)
  try simp only[Act.put,List.setIfInBounds_toArray,List.set_cons_zero,List.set_cons_succ]
  refine aac (i:=5) (some 13) (v:= ?v4) rfl rfl (by kernel_rfl) (by kernel_rfl) (by kernel_rfl) (fun _ _ _ h=>h) (Or.inl ⟨by kernel_rfl,?hy4⟩) (by assumption) ?rest4
  case hy4=>(intro x hSx;(try dsimp only at hSx);have s0:=hSx.cell 0;have s1:=hSx.cell 1;have s2:=hSx.cell 2;have s3:=hSx.cell 3;go_simp;first | done | with_reducible rfl)
  try simp only[Act.put,List.setIfInBounds_toArray,List.set_cons_zero,List.set_cons_succ]
  obtain⟨b1,d1,w1,hrA,hoA,hbA,hsA,hkA⟩:=ajo base a0 n0 c0 acc0 Wd hod (by omega) hsd [91,46] (by decide) (by decide)
  have hn1:acc0.length=n0:=HN0.out
  rw[hn1] at hrA hoA
  have hlen1:(acc0++[91,46]).length≤1000000000:=by simp;omega
  clear hn1
  refine wpAnyH_ready (rs:=[2]) (by kernel_rfl) (by simp) ?_
  refine AllReadyH.cons rfl (fun K hK=> ?_) AllReadyH.nil
  go_simp
  refine hK.out _ _ (afa hHeld _) (fun hHB=> ?_)
  clear hK K hHB
  refine wpAnyH_ready (rs:=[3]) (by kernel_rfl) (by simp) ?_
  refine AllReadyH.cons rfl (fun K hK=> ?_) AllReadyH.nil
  rw[if_pos (by kernel_rfl)]
  refine aev (.tmp 8) (.tmp 10) rfl rfl rfl hrA (hK.out _ _ (hkA _ _ _ (by decide) hHeld) (fun hHA=> ?_))
  clear hK K hrA
  try simp only[Act.put,List.setIfInBounds_toArray]
  have hc1:=abu pr base (by omega) _ _ w1 hoA hlen1 hsA h6 (((hd.trans hbA).cell (p:=⟨8,15,none⟩) h6).trans ht)
  refine wpAnyH_ready (rs:=[6]) (by kernel_rfl) (by simp) ?_
  refine AllReadyH.cons rfl (fun K hK=> ?_) AllReadyH.nil
  go_simp
  refine hc1.mono ?_
  rintro e W1 ⟨v2,rfl,hoC,hbC,hs1,hkC⟩
  go_simp
  refine hK.out _ _ (hkC _ _ _ (by decide) hHA) (fun hB1=> ?_)
  clear hK K
  obtain⟨acc1,hacc'⟩: ∃acc',acc'=acc0++[91,46]++aae pr:=⟨_,rfl⟩
  have hl6:(aae pr).length≤1000:=ack pr (by omega)
  have hl1:acc1.length≤100000000+2000*1:=by rw[hacc'];simp;omega
  rw[←hacc'] at hoC
  obtain⟨a1,c1,rfl⟩:=abn hoC
  have HA1:Hid (acc1=acc0++[91,46]++aae pr):=hacc'
  obtain⟨n1,hn2⟩: ∃n',acc1.length=n':=⟨_,rfl⟩
  have HN1:Hid (acc1.length=n1):=hn2
  rw[hn2] at hoC
  have ho1:BOwn 5 W1 base (.slice a1 n1 c1) acc1:=hoC
  have hb1:Below base w W1:=(hd.trans hbA).trans hbC
  have hk1:KO w W1:=(hkd.trans hkA).trans hkC
  simp only[hn2]
  clear hacc' hn2 hHeld hd hod hsd hkd hoA hbA hsA hkA hHA hoC hbC hkC hc1 hlen1 hl6
  refine aac (i:=7) (some 0) (v:= ?v5) rfl rfl (by kernel_rfl) (by kernel_rfl) (by kernel_rfl) (fun _ _ _ h=>h) (Or.inl ⟨by kernel_rfl,?hy5⟩) (by assumption) ?rest5
  case hy5=>(intro x hSx;(try dsimp only at hSx);have s0:=hSx.cell 0;have s1:=hSx.cell 1;have s2:=hSx.cell 2;have s3:=hSx.cell 3;go_simp;first | done | with_reducible rfl)
  try simp only[Act.put,List.setIfInBounds_toArray,List.set_cons_zero]
  refine wpAnyH_done (by kernel_rfl) ?_ _
  go_upto_region 5 with fail
  refine wp_region_held_drew (S:=fun x=>Blk x B 131 #[.bool false,.int .i64 (pr:Int),.int .i64 (se:Int),.int .i64 (te:Int)]) (by kernel_rfl) hB1 (fun hHeld=> ?_)
  have hd:Below base w W1.drew:=hb1.drew
  have hod:BOwn 5 W1.drew base (.slice a1 n1 c1) acc1:=ho1
  have hsd:base≤W1.drew.heap.size:=hs1
  have hkd:KO w W1.drew:=hk1
  generalize W1.drew=Wd at hHeld hd hod hsd hkd⊢
  clear ho1 hb1 hs1 hk1 hB1
  refine aac (i:=0) (some 15) (v:= ?v6) rfl rfl (by kernel_rfl) (by kernel_rfl) (by kernel_rfl) (fun _ _ _ h=>h) (Or.inl ⟨by kernel_rfl,?hy6⟩) (by assumption) ?rest6
  case hy6=>(intro x hSx;(try dsimp only at hSx);have s0:=hSx.cell 0;have s1:=hSx.cell 1;have s2:=hSx.cell 2;have s3:=hSx.cell 3;go_simp;first | done | with_reducible rfl)
  try simp only[Act.put,List.setIfInBounds_toArray,List.set_cons_zero,List.set_cons_succ]
  refine aac (i:=3) (some 18) (v:= ?v7) rfl rfl (by kernel_rfl) (by kernel_rfl) (by kernel_rfl) (fun _ _ _ h=>h) (Or.inl ⟨by kernel_rfl,?hy7⟩) (by assumption) ?rest7
  case hy7=>(intro x hSx;(try dsimp only at hSx);have s0:=hSx.cell 0;have s1:=hSx.cell 1;have s2:=hSx.cell 2;have s3:=hSx.cell 3;go_simp;first | done | with_reducible rfl)
  try simp only[Act.put,List.setIfInBounds_toArray,List.set_cons_zero,List.set_cons_succ]
  refine aac (i:=4) (some 19) (v:= ?v8) rfl rfl (by kernel_rfl) (by kernel_rfl) (by kernel_rfl) (fun _ _ _ h=>h) (Or.inl ⟨by kernel_rfl,?hy8⟩) (by assumption) ?rest8
  case hy8=>(intro x hSx;(try dsimp only at hSx);have s0:=hSx.cell 0;have s1:=hSx.cell 1;have s2:=hSx.cell 2;have s3:=hSx.cell 3;go_simp;first | done | with_reducible rfl)
  try simp only[Act.put,List.setIfInBounds_toArray,List.set_cons_zero,List.set_cons_succ]
  obtain⟨b1,d1,w1,hrA,hoA,hbA,hsA,hkA⟩:=ajo base a1 n1 c1 acc1 Wd hod (by omega) hsd [46] (by decide) (by decide)
  have hn1:acc1.length=n1:=HN1.out
  rw[hn1] at hrA hoA
  have hlen1:(acc1++[46]).length≤1000000000:=by simp;omega
  clear hn1
  refine wpAnyH_ready (rs:=[1]) (by kernel_rfl) (by simp) ?_
  refine AllReadyH.cons rfl (fun K hK=> ?_) AllReadyH.nil
  go_simp
  refine hK.out _ _ (afa hHeld _) (fun hHB=> ?_)
  clear hK K hHB
  refine wpAnyH_ready (rs:=[2]) (by kernel_rfl) (by simp) ?_
  refine AllReadyH.cons rfl (fun K hK=> ?_) AllReadyH.nil
  rw[if_pos (by kernel_rfl)]
  refine aev (.tmp 15) (.tmp 16) rfl rfl rfl hrA (hK.out _ _ (hkA _ _ _ (by decide) hHeld) (fun hHA=> ?_))
  clear hK K hrA
  try simp only[Act.put,List.setIfInBounds_toArray]
  have hc1:=abu se base (by omega) _ _ w1 hoA hlen1 hsA h6 (((hd.trans hbA).cell (p:=⟨8,15,none⟩) h6).trans ht)
  refine wpAnyH_ready (rs:=[5]) (by kernel_rfl) (by simp) ?_
  refine AllReadyH.cons rfl (fun K hK=> ?_) AllReadyH.nil
  go_simp
  refine hc1.mono ?_
  rintro e W2 ⟨v2,rfl,hoC,hbC,hs2,hkC⟩
  go_simp
  refine hK.out _ _ (hkC _ _ _ (by decide) hHA) (fun hB2=> ?_)
  clear hK K
  obtain⟨acc2,hacc'⟩: ∃acc',acc'=acc1++[46]++aae se:=⟨_,rfl⟩
  have hl6:(aae se).length≤1000:=ack se (by omega)
  have hl2:acc2.length≤100000000+2000*2:=by rw[hacc'];simp;omega
  rw[←hacc'] at hoC
  obtain⟨a2,c2,rfl⟩:=abn hoC
  have HA2:Hid (acc2=acc1++[46]++aae se):=hacc'
  obtain⟨n2,hn2⟩: ∃n',acc2.length=n':=⟨_,rfl⟩
  have HN2:Hid (acc2.length=n2):=hn2
  rw[hn2] at hoC
  have ho2:BOwn 5 W2 base (.slice a2 n2 c2) acc2:=hoC
  have hb2:Below base w W2:=(hd.trans hbA).trans hbC
  have hk2:KO w W2:=(hkd.trans hkA).trans hkC
  simp only[hn2]
  clear hacc' hn2 hHeld hd hod hsd hkd hoA hbA hsA hkA hHA hoC hbC hkC hc1 hlen1 hl6
  refine aac (i:=6) (some 0) (v:= ?v9) rfl rfl (by kernel_rfl) (by kernel_rfl) (by kernel_rfl) (fun _ _ _ h=>h) (Or.inl ⟨by kernel_rfl,?hy9⟩) (by assumption) ?rest9
  case hy9=>(intro x hSx;(try dsimp only at hSx);have s0:=hSx.cell 0;have s1:=hSx.cell 1;have s2:=hSx.cell 2;have s3:=hSx.cell 3;go_simp;first | done | with_reducible rfl)
  try simp only[Act.put,List.setIfInBounds_toArray,List.set_cons_zero]
  refine wpAnyH_done (by kernel_rfl) ?_ _
  go_upto_region 6 with fail
  refine wp_region_held_drew (S:=fun x=>Blk x B 131 #[.bool false,.int .i64 (pr:Int),.int .i64 (se:Int),.int .i64 (te:Int)]) (by kernel_rfl) hB2 (fun hHeld=> ?_)
  have hd:Below base w W2.drew:=hb2.drew
  have hod:BOwn 5 W2.drew base (.slice a2 n2 c2) acc2:=ho2
  have hsd:base≤W2.drew.heap.size:=hs2
  have hkd:KO w W2.drew:=hk2
  generalize W2.drew=Wd at hHeld hd hod hsd hkd⊢
  clear ho2 hb2 hs2 hk2 hB2
  refine aac (i:=0) (some 21) (v:= ?v10) rfl rfl (by kernel_rfl) (by kernel_rfl) (by kernel_rfl) (fun _ _ _ h=>h) (Or.inl ⟨by kernel_rfl,?hy10⟩) (by assumption) ?rest10
  case hy10=>(intro x hSx;(try dsimp only at hSx);have s0:=hSx.cell 0;have s1:=hSx.cell 1;have s2:=hSx.cell 2;have s3:=hSx.cell 3;go_simp;first | done | with_reducible rfl)
  try simp only[Act.put,List.setIfInBounds_toArray,List.set_cons_zero,List.set_cons_succ]
  refine aac (i:=3) (some 24) (v:= ?v11) rfl rfl (by kernel_rfl) (by kernel_rfl) (by kernel_rfl) (fun _ _ _ h=>h) (Or.inl ⟨by kernel_rfl,?hy11⟩) (by assumption) ?rest11
  case hy11=>(intro x hSx;(try dsimp only at hSx);have s0:=hSx.cell 0;have s1:=hSx.cell 1;have s2:=hSx.cell 2;have s3:=hSx.cell 3;go_simp;first | done | with_reducible rfl)
  try simp only[Act.put,List.setIfInBounds_toArray,List.set_cons_zero,List.set_cons_succ]
  refine aac (i:=4) (some 25) (v:= ?v12) rfl rfl (by kernel_rfl) (by kernel_rfl) (by kernel_rfl) (fun _ _ _ h=>h) (Or.inl ⟨by kernel_rfl,?hy12⟩) (by assumption) ?rest12
  case hy12=>(intro x hSx;(try dsimp only at hSx);have s0:=hSx.cell 0;have s1:=hSx.cell 1;have s2:=hSx.cell 2;have s3:=hSx.cell 3;go_simp;first | done | with_reducible rfl)
  try simp only[Act.put,List.setIfInBounds_toArray,List.set_cons_zero,List.set_cons_succ]
  obtain⟨b1,d1,w1,hrA,hoA,hbA,hsA,hkA⟩:=ajo base a2 n2 c2 acc2 Wd hod (by omega) hsd [46] (by decide) (by decide)
  have hn1:acc2.length=n2:=HN2.out
  rw[hn1] at hrA hoA
  have hlen1:(acc2++[46]).length≤1000000000:=by simp;omega
  clear hn1
  refine wpAnyH_ready (rs:=[1]) (by kernel_rfl) (by simp) ?_
  refine AllReadyH.cons rfl (fun K hK=> ?_) AllReadyH.nil
  go_simp
  refine hK.out _ _ (afa hHeld _) (fun hHB=> ?_)
  clear hK K hHB
  refine wpAnyH_ready (rs:=[2]) (by kernel_rfl) (by simp) ?_
  refine AllReadyH.cons rfl (fun K hK=> ?_) AllReadyH.nil
  rw[if_pos (by kernel_rfl)]
  refine aev (.tmp 21) (.tmp 22) rfl rfl rfl hrA (hK.out _ _ (hkA _ _ _ (by decide) hHeld) (fun hHA=> ?_))
  clear hK K hrA
  try simp only[Act.put,List.setIfInBounds_toArray]
  have hc1:=abu te base (by omega) _ _ w1 hoA hlen1 hsA h6 (((hd.trans hbA).cell (p:=⟨8,15,none⟩) h6).trans ht)
  refine wpAnyH_ready (rs:=[5]) (by kernel_rfl) (by simp) ?_
  refine AllReadyH.cons rfl (fun K hK=> ?_) AllReadyH.nil
  go_simp
  refine hc1.mono ?_
  rintro e W3 ⟨v2,rfl,hoC,hbC,hs3,hkC⟩
  go_simp
  refine hK.out _ _ (hkC _ _ _ (by decide) hHA) (fun hB3=> ?_)
  clear hK K
  obtain⟨acc3,hacc'⟩: ∃acc',acc'=acc2++[46]++aae te:=⟨_,rfl⟩
  have hl6:(aae te).length≤1000:=ack te (by omega)
  have hl3:acc3.length≤100000000+2000*3:=by rw[hacc'];simp;omega
  rw[←hacc'] at hoC
  obtain⟨a3,c3,rfl⟩:=abn hoC
  have HA3:Hid (acc3=acc2++[46]++aae te):=hacc'
  obtain⟨n3,hn2⟩: ∃n',acc3.length=n':=⟨_,rfl⟩
  have HN3:Hid (acc3.length=n3):=hn2
  rw[hn2] at hoC
  have ho3:BOwn 5 W3 base (.slice a3 n3 c3) acc3:=hoC
  have hb3:Below base w W3:=(hd.trans hbA).trans hbC
  have hk3:KO w W3:=(hkd.trans hkA).trans hkC
  simp only[hn2]
  clear hacc' hn2 hHeld hd hod hsd hkd hoA hbA hsA hkA hHA hoC hbC hkC hc1 hlen1 hl6
  refine aac (i:=6) (some 0) (v:= ?v13) rfl rfl (by kernel_rfl) (by kernel_rfl) (by kernel_rfl) (fun _ _ _ h=>h) (Or.inl ⟨by kernel_rfl,?hy13⟩) (by assumption) ?rest13
  case hy13=>(intro x hSx;(try dsimp only at hSx);have s0:=hSx.cell 0;have s1:=hSx.cell 1;have s2:=hSx.cell 2;have s3:=hSx.cell 3;go_simp;first | done | with_reducible rfl)
  try simp only[Act.put,List.setIfInBounds_toArray,List.set_cons_zero]
  refine wpAnyH_done (by kernel_rfl) ?_ _
  go_wp2_with (at_builtin;refine aap rfl _ _ rfl base _ _ rfl ho3 93 93 rfl _ rfl (by omega) hs3 w hb3 hk3 ?_;intro v' w' ho4 hb4 hs4 hk4)
  go_ret
  refine⟨_,rfl,?_,hb4,hs4,hk4⟩
  rw[HA3.out,HA2.out,HA1.out,HA0.out] at ho4
  simpa[elP] using ho4
 | true=>
  go_enter Tryz.func162,Tryz.ntmps162
  go_upto_region 4 with fail
  generalize w.alloc (.cells #[.bool true,.int .i64 (pr:Int),.int .i64 (se:Int),.int .i64 (te:Int)] 131)=W0 at hB0 hb0 ho0 hk0 hs0 q0⊢
  generalize w.heap.size=B at hB0 q0⊢
  refine wp_region_held_drew (S:=fun x=>Blk x B 131 #[.bool true,.int .i64 (pr:Int),.int .i64 (se:Int),.int .i64 (te:Int)]) (by kernel_rfl) hB0 (fun hHeld=> ?_)
  have hd:Below base w W0.drew:=hb0.drew
  have hod:BOwn 5 W0.drew base (.slice a0 n0 c0) acc0:=ho0
  have hsd:base≤W0.drew.heap.size:=hs0
  have hkd:KO w W0.drew:=hk0
  generalize W0.drew=Wd at hHeld hd hod hsd hkd⊢
  clear ho0 hb0 hs0 hk0 hB0
  refine aac (i:=0) (some 8) (v:= ?v14) rfl rfl (by kernel_rfl) (by kernel_rfl) (by kernel_rfl) (fun _ _ _ h=>h) (Or.inl ⟨by kernel_rfl,?hy14⟩) (by assumption) ?rest14
  case hy14=>(intro x hSx;(try dsimp only at hSx);have s0:=hSx.cell 0;have s1:=hSx.cell 1;have s2:=hSx.cell 2;have s3:=hSx.cell 3;go_simp;first | done | with_reducible rfl)
  try simp only[Act.put,List.setIfInBounds_toArray,List.set_cons_zero,List.set_cons_succ]
  refine aac (i:=1) (some 9) (v:= ?v15) rfl rfl (by kernel_rfl) (by kernel_rfl) (by kernel_rfl) (fun _ _ _ h=>h) (Or.inl ⟨by kernel_rfl,?hy15⟩) (by assumption) ?rest15
  case hy15=>(intro x hSx;(try dsimp only at hSx);have s0:=hSx.cell 0;have s1:=hSx.cell 1;have s2:=hSx.cell 2;have s3:=hSx.cell 3;go_simp;first | done | with_reducible rfl)
  try simp only[Act.put,List.setIfInBounds_toArray,List.set_cons_zero,List.set_cons_succ]
  refine aac (i:=4) (some 12) (v:= ?v16) rfl rfl (by kernel_rfl) (by kernel_rfl) (by kernel_rfl) (fun _ _ _ h=>h) (Or.inl ⟨by kernel_rfl,?hy16⟩) (by assumption) ?rest16
  case hy16=>(intro x hSx;(try dsimp only at hSx);have s0:=hSx.cell 0;have s1:=hSx.cell 1;have s2:=hSx.cell 2;have s3:=hSx.cell 3;go_simp;first | done | with_reducible rfl)
  try simp only[Act.put,List.setIfInBounds_toArray,List.set_cons_zero,List.set_cons_succ]
  refine aac (i:=5) (some 13) (v:= ?v17) rfl rfl (by kernel_rfl) (by kernel_rfl) (by kernel_rfl) (fun _ _ _ h=>h) (Or.inl ⟨by kernel_rfl,?hy17⟩) (by assumption) ?rest17
  case hy17=>(intro x hSx;(try dsimp only at hSx);have s0:=hSx.cell 0;have s1:=hSx.cell 1;have s2:=hSx.cell 2;have s3:=hSx.cell 3;go_simp;first | done | with_reducible rfl)
  try simp only[Act.put,List.setIfInBounds_toArray,List.set_cons_zero,List.set_cons_succ]
  obtain⟨b1,d1,w1,hrA,hoA,hbA,hsA,hkA⟩:=ajo base a0 n0 c0 acc0 Wd hod (by omega) hsd [91,42] (by decide) (by decide)
  have hn1:acc0.length=n0:=HN0.out
  rw[hn1] at hrA hoA
  have hlen1:(acc0++[91,42]).length≤1000000000:=by simp;omega
  clear hn1
  refine wpAnyH_ready (rs:=[2]) (by kernel_rfl) (by simp) ?_
  refine AllReadyH.cons rfl (fun K hK=> ?_) AllReadyH.nil
  go_simp
  refine hK.out _ _ (afa hHeld _) (fun hHB=> ?_)
  clear hK K hHB
  refine wpAnyH_ready (rs:=[3]) (by kernel_rfl) (by simp) ?_
  refine AllReadyH.cons rfl (fun K hK=> ?_) AllReadyH.nil
  rw[if_pos (by kernel_rfl)]
  refine aev (.tmp 8) (.tmp 10) rfl rfl rfl hrA (hK.out _ _ (hkA _ _ _ (by decide) hHeld) (fun hHA=> ?_))
  clear hK K hrA
  try simp only[Act.put,List.setIfInBounds_toArray]
  have hc1:=abu pr base (by omega) _ _ w1 hoA hlen1 hsA h6 (((hd.trans hbA).cell (p:=⟨8,15,none⟩) h6).trans ht)
  refine wpAnyH_ready (rs:=[6]) (by kernel_rfl) (by simp) ?_
  refine AllReadyH.cons rfl (fun K hK=> ?_) AllReadyH.nil
  go_simp
  refine hc1.mono ?_
  rintro e W1 ⟨v2,rfl,hoC,hbC,hs1,hkC⟩
  go_simp
  refine hK.out _ _ (hkC _ _ _ (by decide) hHA) (fun hB1=> ?_)
  clear hK K
  obtain⟨acc1,hacc'⟩: ∃acc',acc'=acc0++[91,42]++aae pr:=⟨_,rfl⟩
  have hl6:(aae pr).length≤1000:=ack pr (by omega)
  have hl1:acc1.length≤100000000+2000*1:=by rw[hacc'];simp;omega
  rw[←hacc'] at hoC
  obtain⟨a1,c1,rfl⟩:=abn hoC
  have HA1:Hid (acc1=acc0++[91,42]++aae pr):=hacc'
  obtain⟨n1,hn2⟩: ∃n',acc1.length=n':=⟨_,rfl⟩
  have HN1:Hid (acc1.length=n1):=hn2
  rw[hn2] at hoC
  have ho1:BOwn 5 W1 base (.slice a1 n1 c1) acc1:=hoC
  have hb1:Below base w W1:=(hd.trans hbA).trans hbC
  have hk1:KO w W1:=(hkd.trans hkA).trans hkC
  simp only[hn2]
  clear hacc' hn2 hHeld hd hod hsd hkd hoA hbA hsA hkA hHA hoC hbC hkC hc1 hlen1 hl6
  refine aac (i:=7) (some 0) (v:= ?v18) rfl rfl (by kernel_rfl) (by kernel_rfl) (by kernel_rfl) (fun _ _ _ h=>h) (Or.inl ⟨by kernel_rfl,?hy18⟩) (by assumption) ?rest18
  case hy18=>(intro x hSx;(try dsimp only at hSx);have s0:=hSx.cell 0;have s1:=hSx.cell 1;have s2:=hSx.cell 2;have s3:=hSx.cell 3;go_simp;first | done | with_reducible rfl)
  try simp only[Act.put,List.setIfInBounds_toArray,List.set_cons_zero]
  refine wpAnyH_done (by kernel_rfl) ?_ _
  go_upto_region 5 with fail
  refine wp_region_held_drew (S:=fun x=>Blk x B 131 #[.bool true,.int .i64 (pr:Int),.int .i64 (se:Int),.int .i64 (te:Int)]) (by kernel_rfl) hB1 (fun hHeld=> ?_)
  have hd:Below base w W1.drew:=hb1.drew
  have hod:BOwn 5 W1.drew base (.slice a1 n1 c1) acc1:=ho1
  have hsd:base≤W1.drew.heap.size:=hs1
  have hkd:KO w W1.drew:=hk1
  generalize W1.drew=Wd at hHeld hd hod hsd hkd⊢
  clear ho1 hb1 hs1 hk1 hB1
  refine aac (i:=0) (some 15) (v:= ?v19) rfl rfl (by kernel_rfl) (by kernel_rfl) (by kernel_rfl) (fun _ _ _ h=>h) (Or.inl ⟨by kernel_rfl,?hy19⟩) (by assumption) ?rest19
  case hy19=>(intro x hSx;(try dsimp only at hSx);have s0:=hSx.cell 0;have s1:=hSx.cell 1;have s2:=hSx.cell 2;have s3:=hSx.cell 3;go_simp;first | done | with_reducible rfl)
  try simp only[Act.put,List.setIfInBounds_toArray,List.set_cons_zero,List.set_cons_succ]
  refine aac (i:=3) (some 18) (v:= ?v20) rfl rfl (by kernel_rfl) (by kernel_rfl) (by kernel_rfl) (fun _ _ _ h=>h) (Or.inl ⟨by kernel_rfl,?hy20⟩) (by assumption) ?rest20
  case hy20=>(intro x hSx;(try dsimp only at hSx);have s0:=hSx.cell 0;have s1:=hSx.cell 1;have s2:=hSx.cell 2;have s3:=hSx.cell 3;go_simp;first | done | with_reducible rfl)
  try simp only[Act.put,List.setIfInBounds_toArray,List.set_cons_zero,List.set_cons_succ]
  refine aac (i:=4) (some 19) (v:= ?v21) rfl rfl (by kernel_rfl) (by kernel_rfl) (by kernel_rfl) (fun _ _ _ h=>h) (Or.inl ⟨by kernel_rfl,?hy21⟩) (by assumption) ?rest21
  case hy21=>(intro x hSx;(try dsimp only at hSx);have s0:=hSx.cell 0;have s1:=hSx.cell 1;have s2:=hSx.cell 2;have s3:=hSx.cell 3;go_simp;first | done | with_reducible rfl)
  try simp only[Act.put,List.setIfInBounds_toArray,List.set_cons_zero,List.set_cons_succ]
  obtain⟨b1,d1,w1,hrA,hoA,hbA,hsA,hkA⟩:=ajo base a1 n1 c1 acc1 Wd hod (by omega) hsd [46] (by decide) (by decide)
  have hn1:acc1.length=n1:=HN1.out
  rw[hn1] at hrA hoA
  have hlen1:(acc1++[46]).length≤1000000000:=by simp;omega
  clear hn1
  refine wpAnyH_ready (rs:=[1]) (by kernel_rfl) (by simp) ?_
  refine AllReadyH.cons rfl (fun K hK=> ?_) AllReadyH.nil
  go_simp
  refine hK.out _ _ (afa hHeld _) (fun hHB=> ?_)
  clear hK K hHB
  refine wpAnyH_ready (rs:=[2]) (by kernel_rfl) (by simp) ?_
  refine AllReadyH.cons rfl (fun K hK=> ?_) AllReadyH.nil
  rw[if_pos (by kernel_rfl)]
  refine aev (.tmp 15) (.tmp 16) rfl rfl rfl hrA (hK.out _ _ (hkA _ _ _ (by decide) hHeld) (fun hHA=> ?_))
  clear hK K hrA
  try simp only[Act.put,List.setIfInBounds_toArray]
  have hc1:=abu se base (by omega) _ _ w1 hoA hlen1 hsA h6 (((hd.trans hbA).cell (p:=⟨8,15,none⟩) h6).trans ht)
  refine wpAnyH_ready (rs:=[5]) (by kernel_rfl) (by simp) ?_
  refine AllReadyH.cons rfl (fun K hK=> ?_) AllReadyH.nil
  go_simp
  refine hc1.mono ?_
  rintro e W2 ⟨v2,rfl,hoC,hbC,hs2,hkC⟩
  go_simp
  refine hK.out _ _ (hkC _ _ _ (by decide) hHA) (fun hB2=> ?_)
  clear hK K
  obtain⟨acc2,hacc'⟩: ∃acc',acc'=acc1++[46]++aae se:=⟨_,rfl⟩
  have hl6:(aae se).length≤1000:=ack se (by omega)
  have hl2:acc2.length≤100000000+2000*2:=by rw[hacc'];simp;omega
  rw[←hacc'] at hoC
  obtain⟨a2,c2,rfl⟩:=abn hoC
  have HA2:Hid (acc2=acc1++[46]++aae se):=hacc'
  obtain⟨n2,hn2⟩: ∃n',acc2.length=n':=⟨_,rfl⟩
  have HN2:Hid (acc2.length=n2):=hn2
  rw[hn2] at hoC
  have ho2:BOwn 5 W2 base (.slice a2 n2 c2) acc2:=hoC
  have hb2:Below base w W2:=(hd.trans hbA).trans hbC
  have hk2:KO w W2:=(hkd.trans hkA).trans hkC
  simp only[hn2]
  clear hacc' hn2 hHeld hd hod hsd hkd hoA hbA hsA hkA hHA hoC hbC hkC hc1 hlen1 hl6
  refine aac (i:=6) (some 0) (v:= ?v22) rfl rfl (by kernel_rfl) (by kernel_rfl) (by kernel_rfl) (fun _ _ _ h=>h) (Or.inl ⟨by kernel_rfl,?hy22⟩) (by assumption) ?rest22
  case hy22=>(intro x hSx;(try dsimp only at hSx);have s0:=hSx.cell 0;have s1:=hSx.cell 1;have s2:=hSx.cell 2;have s3:=hSx.cell 3;go_simp;first | done | with_reducible rfl)
  try simp only[Act.put,List.setIfInBounds_toArray,List.set_cons_zero]
  refine wpAnyH_done (by kernel_rfl) ?_ _
  go_upto_region 6 with fail
  refine wp_region_held_drew (S:=fun x=>Blk x B 131 #[.bool true,.int .i64 (pr:Int),.int .i64 (se:Int),.int .i64 (te:Int)]) (by kernel_rfl) hB2 (fun hHeld=> ?_)
  have hd:Below base w W2.drew:=hb2.drew
  have hod:BOwn 5 W2.drew base (.slice a2 n2 c2) acc2:=ho2
  have hsd:base≤W2.drew.heap.size:=hs2
  have hkd:KO w W2.drew:=hk2
  generalize W2.drew=Wd at hHeld hd hod hsd hkd⊢
  clear ho2 hb2 hs2 hk2 hB2
  refine aac (i:=0) (some 21) (v:= ?v23) rfl rfl (by kernel_rfl) (by kernel_rfl) (by kernel_rfl) (fun _ _ _ h=>h) (Or.inl ⟨by kernel_rfl,?hy23⟩) (by assumption) ?rest23
  case hy23=>(intro x hSx;(try dsimp only at hSx);have s0:=hSx.cell 0;have s1:=hSx.cell 1;have s2:=hSx.cell 2;have s3:=hSx.cell 3;go_simp;first | done | with_reducible rfl)
  try simp only[Act.put,List.setIfInBounds_toArray,List.set_cons_zero,List.set_cons_succ]
  refine aac (i:=3) (some 24) (v:= ?v24) rfl rfl (by kernel_rfl) (by kernel_rfl) (by kernel_rfl) (fun _ _ _ h=>h) (Or.inl ⟨by kernel_rfl,?hy24⟩) (by assumption) ?rest24
  case hy24=>(intro x hSx;(try dsimp only at hSx);have s0:=hSx.cell 0;have s1:=hSx.cell 1;have s2:=hSx.cell 2;have s3:=hSx.cell 3;go_simp;first | done | with_reducible rfl)
  try simp only[Act.put,List.setIfInBounds_toArray,List.set_cons_zero,List.set_cons_succ]
  refine aac (i:=4) (some 25) (v:= ?v25) rfl rfl (by kernel_rfl) (by kernel_rfl) (by kernel_rfl) (fun _ _ _ h=>h) (Or.inl ⟨by kernel_rfl,?hy25⟩) (by assumption) ?rest25
  case hy25=>(intro x hSx;(try dsimp only at hSx);have s0:=hSx.cell 0;have s1:=hSx.cell 1;have s2:=hSx.cell 2;have s3:=hSx.cell 3;go_simp;first | done | with_reducible rfl)
  try simp only[Act.put,List.setIfInBounds_toArray,List.set_cons_zero,List.set_cons_succ]
  obtain⟨b1,d1,w1,hrA,hoA,hbA,hsA,hkA⟩:=ajo base a2 n2 c2 acc2 Wd hod (by omega) hsd [46] (by decide) (by decide)
  have hn1:acc2.length=n2:=HN2.out
  rw[hn1] at hrA hoA
  have hlen1:(acc2++[46]).length≤1000000000:=by simp;omega
  clear hn1
  refine wpAnyH_ready (rs:=[1]) (by kernel_rfl) (by simp) ?_
  refine AllReadyH.cons rfl (fun K hK=> ?_) AllReadyH.nil
  go_simp
  refine hK.out _ _ (afa hHeld _) (fun hHB=> ?_)
  clear hK K hHB
  refine wpAnyH_ready (rs:=[2]) (by kernel_rfl) (by simp) ?_
  refine AllReadyH.cons rfl (fun K hK=> ?_) AllReadyH.nil
  rw[if_pos (by kernel_rfl)]
  refine aev (.tmp 21) (.tmp 22) rfl rfl rfl hrA (hK.out _ _ (hkA _ _ _ (by decide) hHeld) (fun hHA=> ?_))
  clear hK K hrA
  try simp only[Act.put,List.setIfInBounds_toArray]
  have hc1:=abu te base (by omega) _ _ w1 hoA hlen1 hsA h6 (((hd.trans hbA).cell (p:=⟨8,15,none⟩) h6).trans ht)
  refine wpAnyH_ready (rs:=[5]) (by kernel_rfl) (by simp) ?_
  refine AllReadyH.cons rfl (fun K hK=> ?_) AllReadyH.nil
  go_simp
  refine hc1.mono ?_
  rintro e W3 ⟨v2,rfl,hoC,hbC,hs3,hkC⟩
  go_simp
  refine hK.out _ _ (hkC _ _ _ (by decide) hHA) (fun hB3=> ?_)
  clear hK K
  obtain⟨acc3,hacc'⟩: ∃acc',acc'=acc2++[46]++aae te:=⟨_,rfl⟩
  have hl6:(aae te).length≤1000:=ack te (by omega)
  have hl3:acc3.length≤100000000+2000*3:=by rw[hacc'];simp;omega
  rw[←hacc'] at hoC
  obtain⟨a3,c3,rfl⟩:=abn hoC
  have HA3:Hid (acc3=acc2++[46]++aae te):=hacc'
  obtain⟨n3,hn2⟩: ∃n',acc3.length=n':=⟨_,rfl⟩
  have HN3:Hid (acc3.length=n3):=hn2
  rw[hn2] at hoC
  have ho3:BOwn 5 W3 base (.slice a3 n3 c3) acc3:=hoC
  have hb3:Below base w W3:=(hd.trans hbA).trans hbC
  have hk3:KO w W3:=(hkd.trans hkA).trans hkC
  simp only[hn2]
  clear hacc' hn2 hHeld hd hod hsd hkd hoA hbA hsA hkA hHA hoC hbC hkC hc1 hlen1 hl6
  refine aac (i:=6) (some 0) (v:= ?v26) rfl rfl (by kernel_rfl) (by kernel_rfl) (by kernel_rfl) (fun _ _ _ h=>h) (Or.inl ⟨by kernel_rfl,?hy26⟩) (by assumption) ?rest26
  case hy26=>(intro x hSx;(try dsimp only at hSx);have s0:=hSx.cell 0;have s1:=hSx.cell 1;have s2:=hSx.cell 2;have s3:=hSx.cell 3;go_simp;first | done | with_reducible rfl)
  try simp only[Act.put,List.setIfInBounds_toArray,List.set_cons_zero]
  refine wpAnyH_done (by kernel_rfl) ?_ _
  go_wp2_with (at_builtin;refine aap rfl _ _ rfl base _ _ rfl ho3 93 93 rfl _ rfl (by omega) hs3 w hb3 hk3 ?_;intro v' w' ho4 hb4 hs4 hk4)
  go_ret
  refine⟨_,rfl,?_,hb4,hs4,hk4⟩
  rw[HA3.out,HA2.out,HA1.out,HA0.out] at ho4
  simpa[elP] using ho4
theorem au6 {e:El}(h:aah e=true):wtE e:=by
 unfold aah at h
 simp only[Bool.and_eq_true] at h
 unfold wtE
 simp_all
theorem a1d (l:List El)(k:Nat)(hk:k<l.length):afu (l.take (k+1))=afu (l.take k)++elP l[k]:=by
 unfold afu
 rw[List.take_succ_eq_append_getElem hk,List.flatMap_append]
 simp
theorem alr: ∀us:List Nat,(∀q∈us,q≤1114111)→(aba us).length≤us.length*1001:=by
 intro us
 induction us with
 | nil=>intro _;simp[aba]
 | cons a r ih=>
  intro h
  have h1:=ack a (h a (by simp))
  have h2:=ih (fun q hq=>h q (by simp[hq]))
  cases r with
  | nil=>simp[aba];omega
  | cons b t=>simp only[aba,List.length_append,List.length_cons] at h2⊢;omega
theorem axw {l:List El}(h:l.all aah=true)(k:Nat):(afu (l.take k)).length≤l.length*17:=by
 rw[aeq _ (fun e he=>au6 (List.all_eq_true.1 h e (List.mem_of_mem_take he))),List.length_take]
 omega
set_option maxHeartbeats 4000000 in
set_option maxRecDepth 20000 in
theorem ahf (p:List Int)(l:List El)(hok:EntOk (p,l))(base n₀:Nat)(hn₀:n₀≤base)(pa:Option Addr)(pc:Nat)(ea:Option Addr)(ec:Nat)(v:Value)(acc:List UInt8)(w:World)(hown:BOwn 5 w base v acc)(hacc:acc.length≤1000000)(hbase:base≤w.heap.size)(h6:8<base)(ht:w.cell? ⟨8,15,none⟩=some (.int .u8 4))
  (hp:Ints n₀ w (.slice pa p.length pc) p) (hl:Els n₀ w (.slice ea l.length ec) l):
  Calls Tryz.prog 126 #[v,.agg #[.slice pa p.length pc,.slice ea l.length ec]] w fun e w'=> ∃v',e=.returned v'∧BOwn 5 w' base v' (acc++ahb (p,l))∧Below base w w'∧base≤w'.heap.size∧KO w w':=by
 obtain⟨us,hus,hne,hu8,hum⟩:=akr hok.row
 replace hus:p=us.map (fun q:Nat=>(q:Int)):=hus
 have hpu:p.length=us.length:=by rw[hus];simp
 have hrowP:a2a p=aba us:=by
  unfold a2a
  rw[hus,List.map_map]
  congr 1
  rw[show (Int.toNat ∘ fun q:Nat=>(q:Int))=id from by funext q;simp]
  simp
 have hl16:l.length≤16:=hok.n1
 have hall:l.all aah=true:=hok.ok
 have HE:Hid (acc++ahb (p,l)=acc++aba us++[59]++afu l):=by
  show _=_
  simp[ahb,hrowP]
 rcases hp with ⟨a',cap',e,rfl⟩ | ⟨bp,op,cap',e,hlp,hcp⟩
 ·exfalso
  rw[List.length_nil] at hpu
  exact hne (List.eq_nil_of_length_eq_zero hpu.symm)
 cases e
 rcases hl with ⟨a',cap',e,rfl⟩ | ⟨be,oe,cap',e,hle,hce⟩
 ·exfalso
  have:=hok.n0
  simp at this
 cases e
 rw[hpu]
 have hcp': ∀j (hj:j<us.length),w.cell? ⟨bp,op+j,none⟩=some (.int .i64 (us[j]:Int)):=fun j hj=>by
  rw[hcp j (by omega),hus]
  simp[hj]
 have hB0:=Blk.new w 160 #[.slice (some ⟨bp,op,none⟩) us.length pc,.slice (some ⟨be,oe,none⟩) l.length ec]
 have hb0:=(Below.refl base w).alloc hbase (.cells #[.slice (some ⟨bp,op,none⟩) us.length pc,.slice (some ⟨be,oe,none⟩) l.length ec] 160)
 have ho0:=BOwn.alloc hown (.cells #[.slice (some ⟨bp,op,none⟩) us.length pc,.slice (some ⟨be,oe,none⟩) l.length ec] 160)
 have hk0:=(KO.refl w).alloc (.cells #[.slice (some ⟨bp,op,none⟩) us.length pc,.slice (some ⟨be,oe,none⟩) l.length ec] 160)
 have hs0:base≤(w.alloc (.cells #[.slice (some ⟨bp,op,none⟩) us.length pc,.slice (some ⟨be,oe,none⟩) l.length ec] 160)).heap.size:=by simp;omega
 have q0:=hB0.cell 0
 have q1:=hB0.cell 1
 have HU:Hid (p.length=us.length):=hpu
 clear hpu hus hrowP hok hcp hown
 go_enter Tryz.func126,Tryz.ntmps126
 go_wp2_with fail
 generalize w.alloc (.cells #[.slice (some ⟨bp,op,none⟩) us.length pc,.slice (some ⟨be,oe,none⟩) l.length ec] 160)=W at hB0 hb0 ho0 hk0 hs0 q0 q1⊢
 generalize w.heap.size=B at hB0 q0 q1⊢
 go_loopw [0,12] (fun t i wr=> ∃(k:Nat),k≤us.length∧i=.int .i64 k∧BOwn 5 wr base t (acc++aba (us.take k))∧Below base w wr∧base≤wr.heap.size∧KO w wr∧Blk wr B 160 #[.slice (some ⟨bp,op,none⟩) us.length pc,.slice (some ⟨be,oe,none⟩) l.length ec]) (fun _ i _=>us.length-(intOf i).toNat)
 case atStart=>exact⟨0,by omega,rfl,by simpa[aba] using ho0,hb0,hs0,hk0,hB0⟩
 case round=>
  obtain⟨k,hk,rfl,hok,hbk,hsk,hkk,hBk⟩:=hrel
  by_cases hlt:k<us.length
  ·have hc:=(hbk.cell (p:=⟨bp,op+k,none⟩) (show bp<base by omega)).trans (hcp' k hlt)
   have hst:=ant us k hlt
   have hum':=hum _ (List.getElem_mem hlt)
   have hlen:(acc++aba (us.take k)).length≤2000000:=by
    have:=alr (us.take k) (fun q hq=>hum q (List.mem_of_mem_take hq))
    rw[List.length_take] at this
    simp
    omega
   generalize us[k]=x at hc hst hum'
   obtain⟨A,hA⟩: ∃A,A=acc++aba (us.take k):=⟨_,rfl⟩
   rw[←hA] at hok hlen
   have HA:Hid (A=acc++aba (us.take k)):=hA
   clear hA
   obtain⟨ta,tc,htv⟩:=abn hok
   subst htv
   by_cases hk0:0<k
   ·rw[if_pos hk0] at hst
    have HS:Hid (acc++aba (us.take (k+1))=A++[32]++aae x):=by show _=_;rw[hst,HA.out];simp
    have g0:decide ((0:Int)<(k:Int))=true:=by simp;omega
    clear hst
    go_wp2_with (at_builtin;refine aap rfl _ _ rfl base _ _ rfl hok 32 32 rfl _ rfl (by omega) hsk wr (Below.refl _ _) (KO.refl _) ?_;intro v1 w1 ho1 hb1 hs1 hk1)
    have hc1:=abu x base hum' _ _ w1 ho1 (by simp;omega) hs1 h6 (((hbk.trans hb1).cell (p:=⟨8,15,none⟩) h6).trans ht)
    refine hc1.mono ?_
    rintro e w2 ⟨v2,rfl,ho2,hb2,hs2,hk2⟩
    go_wp2_with fail
    go_roundw
    case rel=>exact⟨k+1,by omega,by simp,by rw[HS.out];exact ho2,hbk.trans (hb1.trans hb2),hs2,hkk.trans (hk1.trans hk2),hk2 _ _ _ (by decide) (hk1 _ _ _ (by decide) hBk)⟩
    case measure=>simp only[intOf];omega
   ·rw[if_neg hk0] at hst
    have HS:Hid (acc++aba (us.take (k+1))=A++aae x):=by show _=_;rw[hst,HA.out];simp
    have g0:decide ((0:Int)<(k:Int))=false:=by simp;omega
    clear hst
    go_wp2_with fail
    have hc1:=abu x base hum' _ _ wr hok (by omega) hsk h6 ((hbk.cell (p:=⟨8,15,none⟩) h6).trans ht)
    refine hc1.mono ?_
    rintro e w2 ⟨v2,rfl,ho2,hb2,hs2,hk2⟩
    go_wp2_with fail
    go_roundw
    case rel=>exact⟨k+1,by omega,by simp,by rw[HS.out];exact ho2,hbk.trans hb2,hs2,hkk.trans hk2,hk2 _ _ _ (by decide) hBk⟩
    case measure=>simp only[intOf];omega
  ·have hfin:acc++aba (us.take k)=acc++aba us:=by rw[List.take_of_length_le (by omega)]
   rw[hfin] at hok
   have hlen:(acc++aba us).length≤1500000:=by
    have:=alr us hum
    simp
    omega
   obtain⟨A,hA⟩: ∃A,A=acc++aba us:=⟨_,rfl⟩
   rw[←hA] at hok hlen
   have HA:Hid (A=acc++aba us):=hA
   clear hA hfin
   obtain⟨ta,tc,htv⟩:=abn hok
   subst htv
   have r1:=hBk.cell 1
   go_wp2_with (at_builtin;refine aap rfl _ _ rfl base _ _ rfl hok 59 59 rfl _ rfl (by omega) hsk wr (Below.refl _ _) (KO.refl _) ?_;intro v1 w1 ho1 hb1 hs1 hk1;have hB1:=hk1 _ _ _ (by decide) hBk;have r2:=Blk.cell hB1 1)
   have hbx:=hbk.trans hb1
   have hkx:=hkk.trans hk1
   clear hb1 hk1 hbk hkk hBk r1 hok
   go_loopw [0,32] (fun t i wr2=> ∃(k:Nat),k≤l.length∧i=.int .i64 k∧BOwn 5 wr2 base t (A++[59]++afu (l.take k))∧Below base w wr2∧base≤wr2.heap.size∧KO w wr2) (fun _ i _=>l.length-(intOf i).toNat)
   case atStart=>exact⟨0,by omega,rfl,by simpa[afu] using ho1,hbx,hs1,hkx⟩
   case round=>
    obtain⟨k2,hk2,rfl,hok2,hbk2,hsk2,hkk2⟩:=hrel
    by_cases hlt2:k2<l.length
    ·obtain⟨e0,e1,e2,e3⟩:=hce k2 hlt2
     have z: ∀j,wr.cell? ⟨be,j,none⟩=w.cell? ⟨be,j,none⟩:=fun j=>hbk2.cell (p:=⟨be,j,none⟩) (show be<base by omega)
     rw[←z] at e0 e1 e2 e3
     have hr:=au6 (List.all_eq_true.1 hall _ (List.getElem_mem hlt2))
     have hst:=a1d l k2 hlt2
     have hsh:=axw hall k2
     generalize l[k2]=el at e0 e1 e2 e3 hr hst
     obtain⟨va,pr,se,te⟩:=el
     obtain⟨h1,h2,h3⟩:=hr
     obtain⟨pr,rfl,hpr⟩:=acg h1
     obtain⟨se,rfl,hse⟩:=acg h2
     obtain⟨te,rfl,hte⟩:=acg h3
     obtain⟨A2,hA2⟩: ∃A2,A2=A++[59]++afu (l.take k2):=⟨_,rfl⟩
     have hlen2:A2.length≤100000000:=by rw[hA2];simp;omega
     rw[←hA2] at hok2
     have HS2:Hid (A++[59]++afu (l.take (k2+1))=A2++elP ⟨va,pr,se,te⟩):=by show _=_;rw[hst,hA2];simp
     clear hA2 hst z hsh h1 h2 h3
     obtain⟨t2,c2,htv⟩:=abn hok2
     subst htv
     have hel:=aj4 va pr se te base (by omega) (by omega) (by omega) _ A2 _ (BOwn.alloc hok2 (.cells #[.bool va,.int .i64 (pr:Int),.int .i64 (se:Int),.int .i64 (te:Int)] 131)) hlen2 (by simp;omega) h6 ((((hbk2.alloc hsk2 _)).cell (p:=⟨8,15,none⟩) h6).trans ht)
     have hb4:=hbk2.alloc hsk2 (.cells #[.bool va,.int .i64 (pr:Int),.int .i64 (se:Int),.int .i64 (te:Int)] 131)
     have hk4:=hkk2.alloc (.cells #[.bool va,.int .i64 (pr:Int),.int .i64 (se:Int),.int .i64 (te:Int)] 131)
     go_wp2_with fail
     refine hel.mono ?_
     rintro e w5 ⟨v5,rfl,ho5,hb5,hs5,hk5⟩
     go_wp2_with fail
     go_roundw
     case rel=>exact⟨k2+1,by omega,by simp,by rw[HS2.out];exact ho5,hb4.trans hb5,hs5,hk4.trans hk5⟩
     case measure=>simp only[intOf];omega
    ·have hfin:A++[59]++afu (l.take k2)=acc++ahb (p,l):=by rw[List.take_of_length_le (by omega),HE.out,HA.out]
     rw[hfin] at hok2
     go_wp2_with fail
     go_ret
     exact⟨_,rfl,hok2,hbk2,hsk2,hkk2⟩
end Go.Proofs.YtfhpgmlfgjfknaaGreatDoor
