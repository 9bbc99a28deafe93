/- Contracts and lemmas (nothing is claimed here). -/
import Derived.Test.YtpfkoldfbecdlaaGreatDoorJ18
namespace Go.Proofs.YtpfkoldfbecdlaaGreatDoor
open Go.RowKit Go.Vf Go.Maps Go.Sort
theorem axp (w:World)(a b:Obj)(n:Nat):((w.alloc a).alloc b).drewN n=grow (w.drewN n) #[a,b]:=by
 unfold grow
 simp only[World.alloc,World.drewN]
 congr 1
set_option maxHeartbeats 2000000 in
set_option maxRecDepth 20000 in
theorem ara (r s:R8)(w:World):Calls Tryz.prog 67 #[.agg (ahk r).toArray,.agg (ahk s).toArray] w fun e w'=>e=.returned (.int .i64 (a0m r s))∧ ∃q os,w'=grow (w.drewN q) os:=by
 have hA:=Blk.new w 144 (rc r.l)
 have hB:=Blk.new (w.alloc (.cells (rc r.l) 144)) 144 (rc s.l)
 have hA':Blk ((w.alloc (.cells (rc r.l) 144)).alloc (.cells (rc s.l) 144)) w.heap.size 144 (rc r.l):=(Below.heap_alloc _ _ _ (by simp)).trans hA
 rw[show (w.alloc (.cells (rc r.l) 144)).heap.size=w.heap.size+1 by simp] at hB
 have iA: ∀n,Ints (w.heap.size+2) (((w.alloc (.cells (rc r.l) 144)).alloc (.cells (rc s.l) 144)).drewN n) (.slice (some ⟨w.heap.size,0,none⟩) 8 8) r.l:=fun n=>.inr ⟨w.heap.size,0,8,rfl,by omega,fun j hj=>by
  rw[Nat.zero_add]
  show((w.alloc (.cells (rc r.l) 144)).alloc (.cells (rc s.l) 144)).cell? _=_
  rw[hA'.cell,ap9 _ _ hj]
  simp[hj]⟩
 have iB: ∀n,Ints (w.heap.size+2) (((w.alloc (.cells (rc r.l) 144)).alloc (.cells (rc s.l) 144)).drewN n) (.slice (some ⟨w.heap.size+1,0,none⟩) 8 8) s.l:=fun n=>.inr ⟨w.heap.size+1,0,8,rfl,by omega,fun j hj=>by
  rw[Nat.zero_add]
  show((w.alloc (.cells (rc r.l) 144)).alloc (.cells (rc s.l) 144)).cell? _=_
  rw[hB.cell,ap9 _ _ hj]
  simp[hj]⟩
 have hc: ∀n,Calls Tryz.prog 63 #[.slice (some ⟨w.heap.size,0,none⟩) 8 8,.slice (some ⟨w.heap.size+1,0,none⟩) 8 8] (((w.alloc (.cells (rc r.l) 144)).alloc (.cells (rc s.l) 144)).drewN n) fun e w'=>e=.returned (.int .i64 (a0m r s))∧w'=((w.alloc (.cells (rc r.l) 144)).alloc (.cells (rc s.l) 144)).drewN n:=fun n=>(aj5 _ _ _ _ r.l s.l _ (iA n) (iB n) (by show 8≤_;omega) (by show 8≤_;omega)).mono fun e w' h=>⟨h.1,h.2.symm⟩
 obtain⟨a0,a1,a2,a3,a4,a5,a6,a7⟩:=r
 obtain⟨b0,b1,b2,b3,b4,b5,b6,b7⟩:=s
 generalize hR:a0m _ _=R at hc⊢
 have hfin:=fun n=>axp w (.cells (rc (R8.l ⟨a0,a1,a2,a3,a4,a5,a6,a7⟩)) 144) (.cells (rc (R8.l ⟨b0,b1,b2,b3,b4,b5,b6,b7⟩)) 144) n
 have hc': ∀n,Calls Tryz.prog 63 #[.slice (some ⟨w.heap.size,0,none⟩) 8 8,.slice (some ⟨w.heap.size+1,0,none⟩) 8 8] (((w.alloc (.cells #[.int .i64 a0,.int .i64 a1,.int .i64 a2,.int .i64 a3,.int .i64 a4,.int .i64 a5,.int .i64 a6,.int .i64 a7] 144)).alloc (.cells #[.int .i64 b0,.int .i64 b1,.int .i64 b2,.int .i64 b3,.int .i64 b4,.int .i64 b5,.int .i64 b6,.int .i64 b7] 144)).drewN n) fun e w'=>e=.returned (.int .i64 R)∧w'=((w.alloc (.cells #[.int .i64 a0,.int .i64 a1,.int .i64 a2,.int .i64 a3,.int .i64 a4,.int .i64 a5,.int .i64 a6,.int .i64 a7] 144)).alloc (.cells #[.int .i64 b0,.int .i64 b1,.int .i64 b2,.int .i64 b3,.int .i64 b4,.int .i64 b5,.int .i64 b6,.int .i64 b7] 144)).drewN n:=hc
 have hfin': ∀n,((w.alloc (.cells #[.int .i64 a0,.int .i64 a1,.int .i64 a2,.int .i64 a3,.int .i64 a4,.int .i64 a5,.int .i64 a6,.int .i64 a7] 144)).alloc (.cells #[.int .i64 b0,.int .i64 b1,.int .i64 b2,.int .i64 b3,.int .i64 b4,.int .i64 b5,.int .i64 b6,.int .i64 b7] 144)).drewN n=grow (w.drewN n) #[(.cells #[.int .i64 a0,.int .i64 a1,.int .i64 a2,.int .i64 a3,.int .i64 a4,.int .i64 a5,.int .i64 a6,.int .i64 a7] 144),(.cells #[.int .i64 b0,.int .i64 b1,.int .i64 b2,.int .i64 b3,.int .i64 b4,.int .i64 b5,.int .i64 b6,.int .i64 b7] 144)]:=hfin
 show Calls Tryz.prog 67 #[.agg #[.int .i64 a0,.int .i64 a1,.int .i64 a2,.int .i64 a3,.int .i64 a4,.int .i64 a5,.int .i64 a6,.int .i64 a7],.agg #[.int .i64 b0,.int .i64 b1,.int .i64 b2,.int .i64 b3,.int .i64 b4,.int .i64 b5,.int .i64 b6,.int .i64 b7]] w _
 clear hc hfin
 clear hA hB hA' iA iB hR
 go_enter Tryz.func67,Tryz.ntmps67
 go_upto_region 1 with fail
 generalize hW:(w.alloc (.cells #[.int .i64 a0,.int .i64 a1,.int .i64 a2,.int .i64 a3,.int .i64 a4,.int .i64 a5,.int .i64 a6,.int .i64 a7] 144)).alloc (.cells #[.int .i64 b0,.int .i64 b1,.int .i64 b2,.int .i64 b3,.int .i64 b4,.int .i64 b5,.int .i64 b6,.int .i64 b7] 144)=W at hc' hfin'⊢
 clear hW
 have hc1:Calls Tryz.prog 63 #[.slice (some ⟨w.heap.size,0,none⟩) 8 8,.slice (some ⟨w.heap.size+1,0,none⟩) 8 8] W.drew fun e w'=>e=.returned (.int .i64 R)∧w'=W.drew:=hc' 1
 have hf1:W.drew=grow (w.drewN 1) _:=hfin' 1
 have HF:Hid (∃q os,W.drew=grow (w.drewN q) os):=⟨_,_,hf1⟩
 clear hc' hfin' hf1
 go_region_with (first | (go_at_call 63;with_reducible refine hc1.mono ?_;rintro e wA ⟨rfl,rfl⟩))
 all_goals go_wp2
 all_goals go_ret
 all_goals exact⟨rfl,HF.out⟩
end Go.Proofs.YtpfkoldfbecdlaaGreatDoor
namespace Go.Proofs.YtpfkoldfbecdlaaGreatDoor
open Go.RowKit Go.Vf Go.Maps Go.Sort Go.Lib
theorem apg: ∀a b c:List Int,¬aag a b<0→ ¬aag b c<0→ ¬aag a c<0:=by
 intro a
 induction a with
 | nil=>
  intro b c h1 h2
  cases b with
  | nil=>exact h2
  | cons y t=>simp[aag] at h1
 | cons x r ih=>
  intro b c h1 h2
  cases b with
  | nil=>cases c with
   | nil=>simp[aag]
   | cons z u=>simp[aag] at h2
  | cons y t=>cases c with
   | nil=>simp[aag]
   | cons z u=>
    unfold aag at h1 h2⊢
    by_cases hxy:x<y
    ·rw[if_pos hxy] at h1;exact absurd (by decide) h1
    ·rw[if_neg hxy] at h1
     by_cases hyz:y<z
     ·rw[if_pos hyz] at h2;exact absurd (by decide) h2
     ·rw[if_neg hyz] at h2
      rw[if_neg (by omega)]
      by_cases hzx:z<x
      ·rw[if_pos hzx];decide
      ·rw[if_neg hzx]
       rw[if_neg (by omega)] at h1 h2
       exact ih t u h1 h2
theorem a7l:SWO (ltOf a0m) where
 irrefl x:=by unfold ltOf a0m;rw[ac3];rfl
 trans x y z h1 h2:=by
  unfold ltOf a0m at*
  rw[decide_eq_true_eq] at*
  exact aec _ _ _ h1 h2
 ntrans x y z h1 h2:=by
  unfold ltOf a0m at*
  rw[decide_eq_false_iff_not] at*
  exact apg _ _ _ h1 h2
theorem a7g: ∀w,(isAgg 144).run Tryz.prog w=.ok true w:=fun w=>by kernel_rfl
theorem a52: ∀w,(Go.sizeOf 144).run Tryz.prog w=.ok 8 w:=fun w=>by kernel_rfl
theorem apx (blk off cap:Nat)(d:Array R8)(w:World)(hH:HoldsK ahk 8 w blk off d)(hblk:blk<w.heap.size)(hsz:d.size<4611686018427387904):
  Calls Tryz.prog 118 #[.slice (some ⟨blk,off,none⟩) d.size cap,.func (.func 67) #[] #[]] w fun e w'=>
   e=.returned (.tuple #[])∧ ∃d' n os,PermIn 0 d.size d d'∧SortedIn (ltOf a0m) 0 d.size d'∧w'=sortWorldK ahk 8 w blk off n d' os:=
 AnyQ.slices_SortFunc Tryz.sortRow 8 a7g a52 ahk agm aux a0m a7l 67 #[] blk off cap d w (fun args w=>by kernel_rfl) (fun m os dk _ x y=>by
  simpa using ara x y (sortWorldK ahk 8 w blk off m dk os)) hH hblk hsz
end Go.Proofs.YtpfkoldfbecdlaaGreatDoor
namespace Go.Proofs.YtpfkoldfbecdlaaGreatDoor
open Go.RowKit Go.Vf Go.Maps Go.Sort Go.Shelf
theorem ajs: ∀(ss:List R8) (t:Nat),t<ss.length*8→(adq ss)[t]? =some ((ahk ss.toArray[t/8]!)[t % 8]!):=by
 intro ss
 induction ss with
 | nil=>intro t h;simp at h
 | cons a r ih=>
  intro t h
  have e:adq (a::r)=ahk a++adq r:=by simp[adq]
  rw[e]
  by_cases h8:t<8
  ·rw[List.getElem?_append_left (by rw[agm];exact h8)]
   have e1:t/8=0:=by omega
   have e2:t % 8=t:=by omega
   rw[e1,e2]
   have hl:t<(ahk a).length:=by rw[agm];exact h8
   simp[hl]
  ·rw[List.getElem?_append_right (by rw[agm];omega),agm,ih (t-8) (by simp at h;omega)]
   have e1:t/8=(t-8)/8+1:=by omega
   have e2:t % 8=(t-8) % 8:=by omega
   have e3:(t-8)/8<r.length:=by simp at h;omega
   rw[e1,e2]
   simp[e3]
theorem awx (ss:List R8):(flatK ahk 8 ss.toArray).toList=adq ss:=by
 apply List.ext_getElem?
 intro t
 by_cases h:t<ss.length*8
 ·rw[ajs ss t h]
  have hs:t<(flatK ahk 8 ss.toArray).size:=by rw[size_flatK];simpa using h
  rw[Array.getElem?_toList,Array.getElem?_eq_getElem hs,←getElem!_pos _ t hs,get_flatK _ _ _ _ (by simpa using h)]
 ·rw[List.getElem?_eq_none (by simp;omega),List.getElem?_eq_none (by rw[anw];omega)]
theorem a6i {w:World}{g:Nat}{cur:Array Value}{ss:List R8}(hb:w.heap[g]? =some (.cells cur 144 (0,0)))(ht:cur.toList.take (ss.length*8)=adq ss):HoldsK ahk 8 w g 0 ss.toArray:=by
 intro j hj
 have hj':j<ss.length*8:=by simpa using hj
 refine⟨?_,by simp[World.frozen?,hb]⟩
 have h1:(cur.toList.take (ss.length*8))[j]? =(adq ss)[j]?:=by rw[ht]
 rw[List.getElem?_take_of_lt hj',ajs ss j hj'] at h1
 simp only[World.cell?,hb,Nat.zero_add]
 simp only[Option.isSome_none,Bool.false_eq_true,if_false]
 rw[←Array.getElem?_toList,h1,get_flatK _ _ _ _ (by simpa using hj')]
 rfl
theorem a60 (cur:Array Value)(ts:List R8)(h:ts.length*8≤cur.size):(putCells id 0 (flatK ahk 8 ts.toArray) cur).toList.take (ts.length*8)=adq ts:=by
 rw[←awx]
 apply List.ext_getElem?
 intro j
 by_cases hj:j<ts.length*8
 ·have hs:j<(flatK ahk 8 ts.toArray).size:=by rw[size_flatK];simpa using hj
  rw[List.getElem?_take_of_lt hj,Array.getElem?_toList,Array.getElem?_toList,Array.getElem?_eq_getElem hs,←getElem!_pos _ j hs]
  simp only[putCells,Array.getElem?_mapIdx]
  rw[Array.getElem?_eq_getElem (show j<cur.size by omega)]
  simp[hj]
 ·rw[List.getElem?_take_eq_none (by omega),List.getElem?_eq_none (by simp;omega)]
theorem a7c {w:World}{g n:Nat}{os:Array Obj}{cur:Array Value}{e:TypeId}{fr:Nat×Nat}(d:Array R8)(hb:w.heap[g]? =some (.cells cur e fr)):
  (sortWorldK ahk 8 w g 0 n d os).heap[g]? =some (.cells (putCells id 0 (flatK ahk 8 d) cur) e fr):=by
 have hg:g<w.heap.size:=(Array.getElem?_eq_some_iff.1 hb).1
 unfold sortWorldK putRowK
 rw[heap_grow_old _ _ (by simpa using hg)]
 simp[putRow,mapBlock,Sort.ahead,Array.getElem?_modify,hb,onCells]
theorem a6j {w:World}{g n:Nat}{os:Array Obj}(d:Array R8):w.grownBy (sortWorldK ahk 8 w g 0 n d os) (some g):=by
 unfold sortWorldK putRowK
 refine⟨rfl,rfl,rfl,by simp,fun k hk hne=> ?_⟩
 rw[heap_grow_old _ _ (by simpa using hk)]
 have:g≠k:=fun e=>hne (by rw[e])
 simp[putRow,mapBlock,Sort.ahead,Array.getElem?_modify,this]
theorem a61 {w:World}{base g cap n:Nat}{os:Array Obj}{cur:Array Value}{ss ts:List R8}(hl:ts.length=ss.length)(hbase:base≤g)(hb:w.heap[g]? =some (.cells cur 144 (0,0)))
  (h1:ss.length≤cap) (h2:cap≤maxLen) (h3:cur.size=cap*8):
  (sortWorldK ahk 8 w g 0 n ts.toArray os).ownsRow base 144 8 (.slice (some ⟨g,0,none⟩) ss.length cap) ts.length (adq ts):=
 ⟨by rw[anw],.inr ⟨g,cap,_,by rw[hl],hbase,a7c _ hb,by omega,h2,by simp[putCells,h3],a60 cur ts (by omega)⟩⟩
def a6w (ss:List R8):Prop:=ss.Pairwise fun a b=>aag a.l b.l<0
theorem axa: ∀a b:List Int,a.length=b.length→ ¬aag b a<0→a=b∨aag a b<0:=by
 intro a
 induction a with
 | nil=>
  intro b h _
  cases b with
  | nil=>exact .inl rfl
  | cons y t=>simp at h
 | cons x r ih=>
  intro b h h1
  cases b with
  | nil=>simp at h
  | cons y t=>
   unfold aag at h1⊢
   by_cases hyx:y<x
   ·rw[if_pos hyx] at h1;exact absurd (by decide) h1
   ·rw[if_neg hyx] at h1
    by_cases hxy:x<y
    ·rw[if_pos hxy];exact .inr (by decide)
    ·rw[if_neg hxy] at h1⊢
     rw[if_neg (by omega)]
     have e:x=y:=by omega
     subst e
     rcases ih t (by simpa using h) h1 with h | h
     ·exact .inl (by rw[h])
     ·exact .inr h
theorem a4s {d':Array R8}(hs:SortedIn (ltOf a0m) 0 d'.size d')(hnd:d'.toList.Nodup):a6w d'.toList:=by
 unfold a6w
 rw[List.pairwise_iff_getElem]
 intro i j hi hj hij
 have hi':i<d'.size:=by simpa using hi
 have hj':j<d'.size:=by simpa using hj
 have h:=hs i j (Nat.zero_le _) hij hj'
 have e1:d'[i]! =d'[i]:=getElem!_pos d' i hi'
 have e2:d'[j]! =d'[j]:=getElem!_pos d' j hj'
 rw[e1,e2] at h
 unfold ltOf a0m at h
 rw[decide_eq_false_iff_not] at h
 rcases axa _ _ (by rfl) h with e | e
 ·exact absurd (R8.l_inj e) ((List.pairwise_iff_getElem.1 hnd) i j hi hj hij)
 ·exact e
theorem a6d (w:World):Calls Tryz.prog 197 #[.slice none 0 0,.int .i64 0,.int .i64 0,.func (.func 67) #[] #[]] w fun e w'=>e=.returned (.tuple #[])∧w'=w:=by
 go_enter Tryz.func197,Tryz.ntmps197
 go_wp2
 go_loopw [8] (fun s wr=>s=.int .i64 1∧wr=w) (fun _ _=>0)
 case atStart=>exact⟨rfl,rfl⟩
 case round=>
  obtain⟨rfl,rfl⟩:=hrel
  go_wp2
  go_end0
  exact⟨rfl,rfl⟩
theorem a58 (k:Int)(w:World):Calls Tryz.prog 165 #[.slice none 0 0,.int .i64 0,.int .i64 0,.int .i64 k,.func (.func 67) #[] #[]] w fun e w'=>e=.returned (.tuple #[])∧w'=w:=by
 go_enter Tryz.func165,Tryz.ntmps165
 go_wp2
 go_loopw [1,2,3,10,11] (fun s1 s2 s3 s10 s11 wr=>s1=.int .i64 0∧s2=.int .i64 0∧wr=w) (fun _ _ _ _ _ _=>0)
 case atStart=>exact⟨rfl,rfl,rfl⟩
 case round=>
  obtain⟨rfl,rfl,rfl⟩:=hrel
  go_wp2_with fail
  refine(a6d _).mono ?_
  rintro e w1 ⟨rfl,rfl⟩
  go_wp2
  refine bodyPost_ret (results_none rfl _ _ _) rfl ?_
  exact⟨rfl,rfl⟩
theorem ar7 (w:World):Calls Tryz.prog 118 #[.slice none 0 0,.func (.func 67) #[] #[]] w fun e w'=>e=.returned (.tuple #[])∧Below w.heap.size w w':=by
 have hl:Calls Tryz.prog 159 #[.int .u64 0] w fun e w'=>e=.returned (.int .i64 (Lib.bitLen 0:Nat))∧w'=w:=by
  have L:=Tryz.sortRow
  exact Any.bits_Len (SlLaysF0.n15.bits {L with}) 0 w (by omega) (by omega)
 go_enter Tryz.func118,Tryz.ntmps118
 go_wp2_with fail
 refine hl.mono ?_
 rintro e w1 ⟨rfl,rfl⟩
 go_wp2_with fail
 refine(a58 _ _).mono ?_
 rintro e w1 ⟨rfl,rfl⟩
 go_wp2
 go_end0
 exact⟨rfl,Below.refl _ _⟩
set_option maxHeartbeats 1000000 in
theorem avk (Bm b nn:Nat)(hnn:nn≤4096)(f:List Int→Option Value)(w:World)(hBm:Bm<w.heap.size)(hm:w.cell? ⟨Bm,0,none⟩=some (.map (some b)))(hown:MapR w b nn f):
  Calls Tryz.prog 65 #[.func (.func 119) #[] #[.pointer (some ⟨Bm,0,none⟩)],.func (.func 67) #[] #[]] w fun e w'=> ∃(v:Value) (ss:List R8),e=.returned v∧a6w ss∧(∀r,r∈ss↔ake r.l∧(f r.l).isSome=true)∧w'.ownsRow w.heap.size 144 8 v ss.length (adq ss)∧Below w.heap.size w w':=by
 have hc:=callsIn_wide.1 (aw4 3 (by decide) #[.pointer (some ⟨Bm,0,none⟩)] _ nn (by omega) w (awj 1 (by decide) Bm b nn f w hBm hm hown))
 go_enter Tryz.func65,Tryz.ntmps65
 go_wp2_with fail
 refine hc.mono ?_
 rintro e W ⟨v,ss,rfl,⟨⟨hnd,hS⟩,hlen⟩,hrow,hb⟩
 rcases hrow.2 with ⟨rfl,hz⟩ | ⟨gb,cap,cur,rfl,hbase,hgb,r1,r2,r3,r4⟩
 ·have hss:ss=[]:=List.eq_nil_of_length_eq_zero hz
  subst hss
  go_wp2_with fail
  refine(ar7 W).mono ?_
  rintro e w2 ⟨rfl,hb2⟩
  go_wp2
  go_ret
  exact⟨_,[],rfl,List.Pairwise.nil,hS,World.ownsRow_nil _ _ _ _,hb.trans (hb2.mono hb.size)⟩
 ·have hH:HoldsK ahk 8 W gb 0 ss.toArray:=a6i hgb r4
  have hgl:gb<W.heap.size:=(Array.getElem?_eq_some_iff.1 hgb).1
  have hsz:ss.toArray.size<4611686018427387904:=by simp;omega
  have cS:=apx gb 0 cap ss.toArray W hH hgl hsz
  rw[show ss.toArray.size=ss.length from by simp] at cS
  go_wp2_with fail
  refine cS.mono ?_
  rintro e w' ⟨rfl,d',n,os,hperm,hsort,rfl⟩
  go_wp2
  go_ret
  obtain⟨hs1,_,hp⟩:=hperm
  have hsz2:d'.size=ss.length:=by rw[hs1];simp
  have hp':d'.toList.Perm ss:=by
   rw[←hsz2,Array.extract_size] at hp
   rw[hsz2] at hp
   simpa using hp
  have hrow':=a61 (n:=n) (os:=os) (ts:=d'.toList) (ss:=ss) (base:=w.heap.size) (by simpa using hsz2) hbase hgb r1 r2 r3
  rw[←hsz2] at hsort
  exact⟨_,d'.toList,rfl,a4s hsort (hp'.nodup_iff.2 hnd),fun r=>(hp'.mem_iff).trans (hS r),by simpa using hrow',hb.grown (a6j _) hb.size (fun j hj=>by cases hj;exact hbase)⟩
end Go.Proofs.YtpfkoldfbecdlaaGreatDoor
namespace Go.Proofs.YtpfkoldfbecdlaaGreatDoor
open Go.RowKit Go.Vf Go.Maps Go.Sort
theorem atx: ∀(p q:List Int) (n:Nat),(∀x∈p,0≤x)→(∀x∈q,0≤x)→p.length≤n→q.length≤n→aag (p++List.replicate (n-p.length) (-1)) (q++List.replicate (n-q.length) (-1))=aag p q:=by
 intro p
 induction p with
 | nil=>
  intro q n hp hq h1 h2
  cases q with
  | nil=>exact ac3 _
  | cons y t=>
   cases n with
   | zero=>simp at h2
   | succ m=>
    have hy:=hq y (by simp)
    simp only[List.nil_append,List.length_nil,Nat.sub_zero,List.replicate_succ,List.cons_append,aag]
    rw[if_pos (by omega)]
 | cons x r ih=>
  intro q n hp hq h1 h2
  have hx:=hp x (by simp)
  cases n with
  | zero=>simp at h1
  | succ m=>
   cases q with
   | nil=>
    simp only[List.nil_append,List.length_nil,Nat.sub_zero,List.replicate_succ,List.cons_append,aag]
    rw[if_neg (by omega),if_pos (by omega)]
   | cons y t=>
    have:=ih t m (fun z hz=>hp z (by simp[hz])) (fun z hz=>hq z (by simp[hz])) (by simpa using h1) (by simpa using h2)
    simp only[List.cons_append,List.length_cons,Nat.add_sub_add_right,aag,this]
theorem ax4 {p:List Int}(h:ac9 p=true): ∀x∈p,0≤x:=by
 intro x hx
 unfold ac9 at h
 simp only[Bool.and_eq_true,List.all_eq_true] at h
 obtain⟨u,rfl,hu⟩:=ad9 (h.2 x hx)
 omega
theorem axb {p q:List Int}(hp:ac9 p=true)(hq:ac9 q=true):aag (acr p) (acr q)=aag p q:=
 atx p q 8 (ax4 hp) (ax4 hq) (abf hp).2 (abf hq).2
def ajw (l:List Ent):Prop:=l.Pairwise fun a b=>aag a.1 b.1<0
theorem arp {a b:List Int}(h:aag a b<0): ¬aag b a<0:=fun h2=>by
 have:=aec _ _ _ h h2
 rw[ac3] at this
 omega
theorem a1l {a b:List Ent}(hp:a.Perm b)(ha:ajw a)(hb:ajw b):a=b:=
 List.Perm.eq_of_pairwise (le:=fun x y:Ent=>aag x.1 y.1<0) (fun _ _ _ _ h1 h2=>absurd h2 (arp h1)) ha hb hp
def ajq (E:List Ent)(r:R8):Ent:=(E.find? (fun e=>acr e.1==r.l)).getD ([],[])
theorem aq4 {E:List Ent}{val:List Int→Value}{r:R8}(h:(amf val E r.l).isSome=true):ajq E r∈E∧acr (ajq E r).1=r.l:=by
 have h':E.any (fun e=>acr e.1==r.l)=true:=by
  unfold amf at h
  split at h
  ·assumption
  ·simp at h
 unfold ajq
 cases hf:E.find? (fun e=>acr e.1==r.l) with
 | none=>
  obtain⟨x,hx,hx2⟩:=List.any_eq_true.1 h'
  exact absurd hx2 (List.find?_eq_none.1 hf x hx)
 | some x=>
  exact⟨List.mem_of_find?_eq_some hf,by simpa using List.find?_some hf⟩
theorem aow {E:List Ent}(h:(E.map Prod.fst).Nodup):E.Nodup:=List.Pairwise.of_map Prod.fst (fun _ _ hne e=>hne (by rw[e])) h
theorem a43: ∀ {E:List Ent},(E.map Prod.fst).Nodup→ ∀ {x y:Ent},x∈E→y∈E→x.1=y.1→x=y:=by
 intro E
 induction E with
 | nil=>intro _ x y hx;cases hx
 | cons a r ih=>
  intro h x y hx hy e
  rw[List.map_cons,List.nodup_cons] at h
  rcases List.mem_cons.1 hx with rfl | hx'
  ·rcases List.mem_cons.1 hy with rfl | hy'
   ·rfl
   ·exact absurd (e▸List.mem_map_of_mem hy') h.1
  ·rcases List.mem_cons.1 hy with rfl | hy'
   ·exact absurd (e▸List.mem_map_of_mem hx') h.1
   ·exact ih h.2 hx' hy' e
theorem az6 {E:List Ent}{val:List Int→Value}{ss:List R8}(hok: ∀e∈E,EntOk e)(hnd:(E.map Prod.fst).Nodup)(hr:a6w ss)(hm: ∀r,r∈ss↔ake r.l∧(amf val E r.l).isSome=true):
  ajw (ss.map (ajq E))∧(ss.map (ajq E)).Perm E:=by
 have hsp: ∀r∈ss,ajq E r∈E∧acr (ajq E r).1=r.l:=fun r hr=>aq4 ((hm r).1 hr).2
 have hR:ajw (ss.map (ajq E)):=by
  unfold ajw
  rw[List.pairwise_map]
  refine List.Pairwise.imp_of_mem (fun {a b} ha hb h=> ?_) hr
  obtain⟨ha1,ha2⟩:=hsp a ha
  obtain⟨hb1,hb2⟩:=hsp b hb
  rw[←axb (hok _ ha1).row (hok _ hb1).row,ha2,hb2]
  exact h
 refine⟨hR,(List.perm_ext_iff_of_nodup ?_ (aow hnd)).2 fun e=> ?_⟩
 ·refine List.Pairwise.imp (fun {a b} h e=> ?_) hR
  rw[e,ac3] at h
  omega
 ·constructor
  ·intro he
   obtain⟨r,hr,rfl⟩:=List.mem_map.1 he
   exact(hsp r hr).1
  ·intro he
   have hin:=apz (hok e he).row
   have hl:(R8.of (acr e.1)).l=acr e.1:=R8.l_of hin.1
   have hmem:R8.of (acr e.1)∈ss:=by
    refine(hm _).2 ?_
    rw[hl]
    refine⟨hin,?_⟩
    unfold amf
    rw[if_pos (List.any_eq_true.2 ⟨e,he,by simp⟩)]
    rfl
   refine List.mem_map.2 ⟨_,hmem,?_⟩
   obtain⟨h1,h2⟩:=hsp _ hmem
   rw[hl] at h2
   have hf:=aop (hok _ h1).row (hok e he).row h2
   exact a43 hnd h1 he hf
def ahq (vs:List (Value×Value)):List Value:=vs.flatMap fun p=>[p.1,p.2]
theorem ani (vs:List (Value×Value))(p e:Value):ahq (vs++[(p,e)])=ahq vs++[p,e]:=by simp[ahq]
theorem a2p: ∀(vs:List (Value×Value)) (j:Nat) (hj:j<vs.length),(ahq vs)[j*2]? =some vs[j].1∧(ahq vs)[j*2+1]? =some vs[j].2:=by
 intro vs
 induction vs with
 | nil=>intro j hj;simp at hj
 | cons a r ih=>
  intro j hj
  have e:ahq (a::r)=a.1::a.2::ahq r:=by simp[ahq]
  rw[e]
  cases j with
  | zero=>exact⟨rfl,rfl⟩
  | succ j=>
   have:=ih j (by simpa using hj)
   rw[show (j+1)*2=j*2+1+1 by omega]
   simpa using this
theorem ayw {vs:List (Value×Value)}{u:Value}(h:u∈ahq vs): ∃j,∃hj:j<vs.length,u=vs[j].1∨u=vs[j].2:=by
 unfold ahq at h
 obtain⟨p,hp,hu⟩:=List.mem_flatMap.1 h
 obtain⟨j,hj,rfl⟩:=List.mem_iff_getElem.1 hp
 refine⟨j,hj,?_⟩
 simpa using hu
structure EntsO (w:World)(base:Nat)(v:Value)(vs:List (Value×Value))(E:List Ent):Prop where
 row:w.ownsRow base 128 2 v E.length (ahq vs)
 len:vs.length=E.length
 pts: ∀j (h1:j<vs.length) (h2:j<E.length),IOwn w base vs[j].1 E[j].1
 els: ∀j (h1:j<vs.length) (h2:j<E.length),EOwn w base vs[j].2 E[j].2
 apt:(ahq vs).Pairwise Apt
theorem EntsO.nil (w:World)(base:Nat):EntsO w base (.slice none 0 0) [] []:=⟨World.ownsRow_nil _ _ _ _,rfl,fun j h=>by simp at h,fun j h=>by simp at h,List.Pairwise.nil⟩
section
variable {w:World}{base:Nat}{v:Value}{vs:List (Value×Value)}{E:List Ent}
theorem EntsO.lt (h:EntsO w base v vs E): ∀u∈ahq vs,∀g,u.ownBlock=some g→g<w.heap.size:=by
 intro u hu g hg
 obtain⟨j,hj,rfl | rfl⟩:=ayw hu
 ·exact ak9 (h.pts j hj (h.len▸hj)) g hg
 ·exact ak9 (h.els j hj (h.len▸hj)) g hg
theorem EntsO.below {w':World}{n:Nat}(h:EntsO w base v vs E)(hb:Below n w w')(hn:w.heap.size≤n):EntsO w' base v vs E:=by
 have q: ∀ {u:Value} {b:Nat} {e:TypeId} {s k:Nat} {xs:List Value},w.ownsRow b e s u k xs→w'.ownsRow b e s u k xs:=fun hu=>adj hu (fun g hg=>hb.block g (by have:=ak9 hu g hg;omega))
 exact⟨q h.row,h.len,fun j h1 h2=>q (h.pts j h1 h2),fun j h1 h2=>q (h.els j h1 h2),h.apt⟩
theorem EntsO.mono {b':Nat}(h:EntsO w base v vs E)(hb:b'≤base):EntsO w b' v vs E:=
 ⟨aah h.row hb,h.len,fun j h1 h2=>aah (h.pts j h1 h2) hb,fun j h1 h2=>aah (h.els j h1 h2) hb,h.apt⟩
theorem EntsO.snoc {w6:World}{pv ev v':Value}{e:Ent}{o:Obj}{m:Nat}(h:EntsO w base v vs E)(hp:IOwn w base pv e.1)(he:EOwn w base ev e.2)
  (hlt: ∀u∈ahq vs,∀g,u.ownBlock=some g→g<m) (hpm: ∀g,pv.ownBlock=some g→m≤g) (hem: ∀g,ev.ownBlock=some g→m≤g)
  (hrow:w6.ownsRow base 128 2 v' (E.length+1) (ahq vs++[pv,ev])) (hg:(w.alloc o).grownBy w6 v.ownBlock):EntsO w6 base v' (vs++[(pv,ev)]) (E++[e]):=by
 have q: ∀ {u:Value} {b:Nat} {t:TypeId} {s k:Nat} {xs:List Value},w.ownsRow b t s u k xs→128≠t→w6.ownsRow b t s u k xs:=fun hu ht=>acs (hu.alloc o) hg (afb (h.row.alloc o) (hu.alloc o) ht)
 refine⟨?_,by simp[h.len],fun j h1 h2=> ?_,fun j h1 h2=> ?_,?_⟩
 ·rw[ani,List.length_append];exact hrow
 ·by_cases hj:j<vs.length
  ·have hj2:j<E.length:=h.len▸hj
   rw[List.getElem_append_left hj,List.getElem_append_left hj2]
   exact q (h.pts j hj hj2) (by decide)
  ·have e1:j=vs.length:=by simp at h1;omega
   have e2:j=E.length:=by rw[e1,h.len]
   rw[List.getElem_append_right (by omega),List.getElem_append_right (by omega)]
   simp only[e1,h.len,Nat.sub_self,List.getElem_cons_zero]
   exact q hp (by decide)
 ·by_cases hj:j<vs.length
  ·have hj2:j<E.length:=h.len▸hj
   rw[List.getElem_append_left hj,List.getElem_append_left hj2]
   exact q (h.els j hj hj2) (by decide)
  ·have e1:j=vs.length:=by simp at h1;omega
   have e2:j=E.length:=by rw[e1,h.len]
   rw[List.getElem_append_right (by omega),List.getElem_append_right (by omega)]
   simp only[e1,h.len,Nat.sub_self,List.getElem_cons_zero]
   exact q he (by decide)
 ·rw[ani,List.pairwise_append]
  refine⟨h.apt,?_,fun a ha b hb=> ?_⟩
  ·have:=afb hp he (by decide)
   simpa using this
  ·intro g h1 h2
   have:=hlt a ha g h1
   simp at hb
   rcases hb with rfl | rfl
   ·have:=hpm g h2;omega
   ·have:=hem g h2;omega
end
theorem EntsO.inn {w:World}{base:Nat}{v:Value}{vs:List (Value×Value)}{E:List Ent}(h:EntsO w base v vs E):EIn w.heap.size w v E:=by
 rcases h.row.2 with ⟨rfl,h0⟩ | ⟨g,cap,cur,rfl,hb,hg,hn,hm,hs,ht⟩
 ·exact .inl ⟨_,_,rfl,List.eq_nil_of_length_eq_zero h0⟩
 ·have hB:Blk w g 128 cur:=hg
  refine .inr ⟨g,0,cap,rfl,hB.lt,fun j hj=> ?_⟩
  have hj1:j<vs.length:=h.len▸hj
  obtain⟨f1,f2⟩:=a2p vs j hj1
  have hp:=h.pts j hj1 hj
  have he:=h.els j hj1 hj
  obtain⟨pa,pc,hpv⟩:=aay hp
  obtain⟨ea,ec,hev⟩:=aay he
  have q: ∀k,k<E.length*2→w.cell? ⟨g,0+k,none⟩=(ahq vs)[k]?:=fun k hk=>by
   rw[Nat.zero_add,hB.cell,←ht,List.getElem?_take_of_lt hk,Array.getElem?_toList]
  refine⟨pa,pc,ea,ec,?_,?_,?_,?_⟩
  ·rw[q _ (by omega),f1,hpv]
  ·rw[Nat.add_assoc,q _ (by omega),f2,hev]
  ·have:=IOwn.ints hp
   rwa [hpv] at this
  ·have:=EOwn.els he
   rwa [hev] at this
end Go.Proofs.YtpfkoldfbecdlaaGreatDoor
