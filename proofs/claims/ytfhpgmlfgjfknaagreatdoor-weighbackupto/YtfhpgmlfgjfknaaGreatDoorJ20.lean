/- Contracts and lemmas (nothing is claimed here). -/
import Derived.Test.YtfhpgmlfgjfknaaGreatDoorJ19
namespace Go.Proofs.YtfhpgmlfgjfknaaGreatDoor
open Go.RowKit Go.Vf Go.Maps Go.Sort
theorem ayl (w:World)(a b:Obj)(n:Nat):((w.alloc a).alloc b).drewN n=grow (w.drewN n) #[a,b]:=by
 unfold grow
 simp only[World.alloc,World.drewN]
 congr 1
set_option maxHeartbeats 2000000 in
set_option maxRecDepth 20000 in
theorem aru (r s:R8)(w:World):Calls Tryz.prog 87 #[.agg (ahn r).toArray,.agg (ahn s).toArray] w fun e w'=>e=.returned (.int .i64 (a1l r s))∧ ∃q os,w'=grow (w.drewN q) os:=by
 have hA:=Blk.new w 162 (rc r.l)
 have hB:=Blk.new (w.alloc (.cells (rc r.l) 162)) 162 (rc s.l)
 have hA':Blk ((w.alloc (.cells (rc r.l) 162)).alloc (.cells (rc s.l) 162)) w.heap.size 162 (rc r.l):=(Below.heap_alloc _ _ _ (by simp)).trans hA
 rw[show (w.alloc (.cells (rc r.l) 162)).heap.size=w.heap.size+1 by simp] at hB
 have iA: ∀n,Ints (w.heap.size+2) (((w.alloc (.cells (rc r.l) 162)).alloc (.cells (rc s.l) 162)).drewN n) (.slice (some ⟨w.heap.size,0,none⟩) 8 8) r.l:=fun n=>.inr ⟨w.heap.size,0,8,rfl,by omega,fun j hj=>by
  rw[Nat.zero_add]
  show((w.alloc (.cells (rc r.l) 162)).alloc (.cells (rc s.l) 162)).cell? _=_
  rw[hA'.cell,aql _ _ hj]
  simp[hj]⟩
 have iB: ∀n,Ints (w.heap.size+2) (((w.alloc (.cells (rc r.l) 162)).alloc (.cells (rc s.l) 162)).drewN n) (.slice (some ⟨w.heap.size+1,0,none⟩) 8 8) s.l:=fun n=>.inr ⟨w.heap.size+1,0,8,rfl,by omega,fun j hj=>by
  rw[Nat.zero_add]
  show((w.alloc (.cells (rc r.l) 162)).alloc (.cells (rc s.l) 162)).cell? _=_
  rw[hB.cell,aql _ _ hj]
  simp[hj]⟩
 have hc: ∀n,Calls Tryz.prog 83 #[.slice (some ⟨w.heap.size,0,none⟩) 8 8,.slice (some ⟨w.heap.size+1,0,none⟩) 8 8] (((w.alloc (.cells (rc r.l) 162)).alloc (.cells (rc s.l) 162)).drewN n) fun e w'=>e=.returned (.int .i64 (a1l r s))∧w'=((w.alloc (.cells (rc r.l) 162)).alloc (.cells (rc s.l) 162)).drewN n:=fun n=>(akg _ _ _ _ r.l s.l _ (iA n) (iB n) (by show 8≤_;omega) (by show 8≤_;omega)).mono fun e w' h=>⟨h.1,h.2.symm⟩
 obtain⟨a0,a1,a2,a3,a4,a5,a6,a7⟩:=r
 obtain⟨b0,b1,b2,b3,b4,b5,b6,b7⟩:=s
 generalize hR:a1l _ _=R at hc⊢
 have hfin:=fun n=>ayl w (.cells (rc (R8.l ⟨a0,a1,a2,a3,a4,a5,a6,a7⟩)) 162) (.cells (rc (R8.l ⟨b0,b1,b2,b3,b4,b5,b6,b7⟩)) 162) n
 have hc': ∀n,Calls Tryz.prog 83 #[.slice (some ⟨w.heap.size,0,none⟩) 8 8,.slice (some ⟨w.heap.size+1,0,none⟩) 8 8] (((w.alloc (.cells #[.int .i64 a0,.int .i64 a1,.int .i64 a2,.int .i64 a3,.int .i64 a4,.int .i64 a5,.int .i64 a6,.int .i64 a7] 162)).alloc (.cells #[.int .i64 b0,.int .i64 b1,.int .i64 b2,.int .i64 b3,.int .i64 b4,.int .i64 b5,.int .i64 b6,.int .i64 b7] 162)).drewN n) fun e w'=>e=.returned (.int .i64 R)∧w'=((w.alloc (.cells #[.int .i64 a0,.int .i64 a1,.int .i64 a2,.int .i64 a3,.int .i64 a4,.int .i64 a5,.int .i64 a6,.int .i64 a7] 162)).alloc (.cells #[.int .i64 b0,.int .i64 b1,.int .i64 b2,.int .i64 b3,.int .i64 b4,.int .i64 b5,.int .i64 b6,.int .i64 b7] 162)).drewN n:=hc
 have hfin': ∀n,((w.alloc (.cells #[.int .i64 a0,.int .i64 a1,.int .i64 a2,.int .i64 a3,.int .i64 a4,.int .i64 a5,.int .i64 a6,.int .i64 a7] 162)).alloc (.cells #[.int .i64 b0,.int .i64 b1,.int .i64 b2,.int .i64 b3,.int .i64 b4,.int .i64 b5,.int .i64 b6,.int .i64 b7] 162)).drewN n=grow (w.drewN n) #[(.cells #[.int .i64 a0,.int .i64 a1,.int .i64 a2,.int .i64 a3,.int .i64 a4,.int .i64 a5,.int .i64 a6,.int .i64 a7] 162),(.cells #[.int .i64 b0,.int .i64 b1,.int .i64 b2,.int .i64 b3,.int .i64 b4,.int .i64 b5,.int .i64 b6,.int .i64 b7] 162)]:=hfin
 show Calls Tryz.prog 87 #[.agg #[.int .i64 a0,.int .i64 a1,.int .i64 a2,.int .i64 a3,.int .i64 a4,.int .i64 a5,.int .i64 a6,.int .i64 a7],.agg #[.int .i64 b0,.int .i64 b1,.int .i64 b2,.int .i64 b3,.int .i64 b4,.int .i64 b5,.int .i64 b6,.int .i64 b7]] w _
 clear hc hfin
 clear hA hB hA' iA iB hR
 go_enter Tryz.func87,Tryz.ntmps87
 go_upto_region 1 with fail
 generalize hW:(w.alloc (.cells #[.int .i64 a0,.int .i64 a1,.int .i64 a2,.int .i64 a3,.int .i64 a4,.int .i64 a5,.int .i64 a6,.int .i64 a7] 162)).alloc (.cells #[.int .i64 b0,.int .i64 b1,.int .i64 b2,.int .i64 b3,.int .i64 b4,.int .i64 b5,.int .i64 b6,.int .i64 b7] 162)=W at hc' hfin'⊢
 clear hW
 have hc1:Calls Tryz.prog 83 #[.slice (some ⟨w.heap.size,0,none⟩) 8 8,.slice (some ⟨w.heap.size+1,0,none⟩) 8 8] W.drew fun e w'=>e=.returned (.int .i64 R)∧w'=W.drew:=hc' 1
 have hf1:W.drew=grow (w.drewN 1) _:=hfin' 1
 have HF:Hid (∃q os,W.drew=grow (w.drewN q) os):=⟨_,_,hf1⟩
 clear hc' hfin' hf1
 go_region_with (first | (go_at_call 83;with_reducible refine hc1.mono ?_;rintro e wA ⟨rfl,rfl⟩))
 all_goals go_wp2
 all_goals go_ret
 all_goals exact⟨rfl,HF.out⟩
end Go.Proofs.YtfhpgmlfgjfknaaGreatDoor
namespace Go.Proofs.YtfhpgmlfgjfknaaGreatDoor
open Go.RowKit Go.Vf Go.Maps Go.Sort Go.Lib
theorem apx: ∀a b c:List Int,¬aaj a b<0→ ¬aaj b c<0→ ¬aaj a c<0:=by
 intro a
 induction a with
 | nil=>
  intro b c h1 h2
  cases b with
  | nil=>exact h2
  | cons y t=>simp[aaj] at h1
 | cons x r ih=>
  intro b c h1 h2
  cases b with
  | nil=>cases c with
   | nil=>simp[aaj]
   | cons z u=>simp[aaj] at h2
  | cons y t=>cases c with
   | nil=>simp[aaj]
   | cons z u=>
    unfold aaj at h1 h2⊢
    by_cases hxy:x<y
    ·rw[if_pos hxy] at h1;exact absurd (by decide) h1
    ·rw[if_neg hxy] at h1
     by_cases hyz:y<z
     ·rw[if_pos hyz] at h2;exact absurd (by decide) h2
     ·rw[if_neg hyz] at h2
      rw[if_neg (by omega)]
      by_cases hzx:z<x
      ·rw[if_pos hzx];decide
      ·rw[if_neg hzx]
       rw[if_neg (by omega)] at h1 h2
       exact ih t u h1 h2
theorem a9a:SWO (ltOf a1l) where
 irrefl x:=by unfold ltOf a1l;rw[ac4];try rfl
 trans x y z h1 h2:=by
  unfold ltOf a1l at*
  rw[decide_eq_true_eq] at*
  exact aeb _ _ _ h1 h2
 ntrans x y z h1 h2:=by
  unfold ltOf a1l at*
  rw[decide_eq_false_iff_not] at*
  exact apx _ _ _ h1 h2
theorem a84: ∀w,(isAgg 162).run Tryz.prog w=.ok true w:=fun w=>by kernel_rfl
theorem a7l: ∀w,(Go.sizeOf 162).run Tryz.prog w=.ok 8 w:=fun w=>by kernel_rfl
theorem aqa (blk off cap:Nat)(d:Array R8)(w:World)(hH:HoldsK ahn 8 w blk off d)(hblk:blk<w.heap.size)(hsz:d.size<4611686018427387904):
  Calls Tryz.prog 128 #[.slice (some ⟨blk,off,none⟩) d.size cap,.func (.func 87) #[] #[]] w fun e w'=>
   e=.returned (.tuple #[])∧ ∃d' n os,PermIn 0 d.size d d'∧SortedIn (ltOf a1l) 0 d.size d'∧w'=sortWorldK ahn 8 w blk off n d' os:=
 AnyQ.slices_SortFunc Tryz.sortRow 8 a84 a7l ahn ago avx a1l a9a 87 #[] blk off cap d w (fun args w=>by kernel_rfl) (fun m os dk _ x y=>by
  simpa using aru x y (sortWorldK ahn 8 w blk off m dk os)) hH hblk hsz
end Go.Proofs.YtfhpgmlfgjfknaaGreatDoor
namespace Go.Proofs.YtfhpgmlfgjfknaaGreatDoor
open Go.RowKit Go.Vf Go.Maps Go.Sort Go.Shelf
theorem aj2: ∀(ss:List R8) (t:Nat),t<ss.length*8→(ado ss)[t]? =some ((ahn ss.toArray[t/8]!)[t % 8]!):=by
 intro ss
 induction ss with
 | nil=>intro t h;simp at h
 | cons a r ih=>
  intro t h
  have e:ado (a::r)=ahn a++ado r:=by simp[ado]
  rw[e]
  by_cases h8:t<8
  ·rw[List.getElem?_append_left (by rw[ago];exact h8)]
   have e1:t/8=0:=by omega
   have e2:t % 8=t:=by omega
   rw[e1,e2]
   have hl:t<(ahn a).length:=by rw[ago];exact h8
   simp[hl]
  ·rw[List.getElem?_append_right (by rw[ago];omega),ago,ih (t-8) (by simp at h;omega)]
   have e1:t/8=(t-8)/8+1:=by omega
   have e2:t % 8=(t-8) % 8:=by omega
   have e3:(t-8)/8<r.length:=by simp at h;omega
   rw[e1,e2]
   simp[e3]
theorem axq (ss:List R8):(flatK ahn 8 ss.toArray).toList=ado ss:=by
 apply List.ext_getElem?
 intro t
 by_cases h:t<ss.length*8
 ·rw[aj2 ss t h]
  have hs:t<(flatK ahn 8 ss.toArray).size:=by rw[size_flatK];simpa using h
  rw[Array.getElem?_toList,Array.getElem?_eq_getElem hs,←getElem!_pos _ t hs,get_flatK _ _ _ _ (by simpa using h)]
 ·rw[List.getElem?_eq_none (by simp;omega),List.getElem?_eq_none (by rw[aoe];omega)]
theorem a71 {w:World}{g:Nat}{cur:Array Value}{ss:List R8}(hb:w.heap[g]? =some (.cells cur 162 (0,0)))(ht:cur.toList.take (ss.length*8)=ado ss):HoldsK ahn 8 w g 0 ss.toArray:=by
 intro j hj
 have hj':j<ss.length*8:=by simpa using hj
 refine⟨?_,by simp[World.frozen?,hb]⟩
 have h1:(cur.toList.take (ss.length*8))[j]? =(ado ss)[j]?:=by rw[ht]
 rw[List.getElem?_take_of_lt hj',aj2 ss j hj'] at h1
 simp only[World.cell?,hb,Nat.zero_add]
 simp only[Option.isSome_none,Bool.false_eq_true,if_false]
 rw[←Array.getElem?_toList,h1,get_flatK _ _ _ _ (by simpa using hj')]
 try rfl
theorem a8q (cur:Array Value)(ts:List R8)(h:ts.length*8≤cur.size):(putCells id 0 (flatK ahn 8 ts.toArray) cur).toList.take (ts.length*8)=ado ts:=by
 rw[←axq]
 apply List.ext_getElem?
 intro j
 by_cases hj:j<ts.length*8
 ·have hs:j<(flatK ahn 8 ts.toArray).size:=by rw[size_flatK];simpa using hj
  rw[List.getElem?_take_of_lt hj,Array.getElem?_toList,Array.getElem?_toList,Array.getElem?_eq_getElem hs,←getElem!_pos _ j hs]
  simp only[putCells,Array.getElem?_mapIdx]
  rw[Array.getElem?_eq_getElem (show j<cur.size by omega)]
  simp[hj]
 ·rw[List.getElem?_take_eq_none (by omega),List.getElem?_eq_none (by simp;omega)]
theorem a80 {w:World}{g n:Nat}{os:Array Obj}{cur:Array Value}{e:TypeId}{fr:Nat×Nat}(d:Array R8)(hb:w.heap[g]? =some (.cells cur e fr)):
  (sortWorldK ahn 8 w g 0 n d os).heap[g]? =some (.cells (putCells id 0 (flatK ahn 8 d) cur) e fr):=by
 have hg:g<w.heap.size:=(Array.getElem?_eq_some_iff.1 hb).1
 unfold sortWorldK putRowK
 rw[heap_grow_old _ _ (by simpa using hg)]
 simp[putRow,mapBlock,Sort.ahead,Array.getElem?_modify,hb,onCells]
theorem a73 {w:World}{g n:Nat}{os:Array Obj}(d:Array R8):w.grownBy (sortWorldK ahn 8 w g 0 n d os) (some g):=by
 unfold sortWorldK putRowK
 refine⟨rfl,rfl,rfl,by simp,fun k hk hne=> ?_⟩
 rw[heap_grow_old _ _ (by simpa using hk)]
 have:g≠k:=fun e=>hne (by rw[e])
 simp[putRow,mapBlock,Sort.ahead,Array.getElem?_modify,this]
theorem a8r {w:World}{base g cap n:Nat}{os:Array Obj}{cur:Array Value}{ss ts:List R8}(hl:ts.length=ss.length)(hbase:base≤g)(hb:w.heap[g]? =some (.cells cur 162 (0,0)))
  (h1:ss.length≤cap) (h2:cap≤maxLen) (h3:cur.size=cap*8):
  (sortWorldK ahn 8 w g 0 n ts.toArray os).ownsRow base 162 8 (.slice (some ⟨g,0,none⟩) ss.length cap) ts.length (ado ts):=
 ⟨by rw[aoe],.inr ⟨g,cap,_,by rw[hl],hbase,a80 _ hb,by omega,h2,by simp[putCells,h3],a8q cur ts (by omega)⟩⟩
def a8m (ss:List R8):Prop:=ss.Pairwise fun a b=>aaj a.l b.l<0
theorem ax4: ∀a b:List Int,a.length=b.length→ ¬aaj b a<0→a=b∨aaj a b<0:=by
 intro a
 induction a with
 | nil=>
  intro b h _
  cases b with
  | nil=>exact .inl rfl
  | cons y t=>simp at h
 | cons x r ih=>
  intro b h h1
  cases b with
  | nil=>simp at h
  | cons y t=>
   unfold aaj at h1⊢
   by_cases hyx:y<x
   ·rw[if_pos hyx] at h1;exact absurd (by decide) h1
   ·rw[if_neg hyx] at h1
    by_cases hxy:x<y
    ·rw[if_pos hxy];exact .inr (by decide)
    ·rw[if_neg hxy] at h1⊢
     rw[if_neg (by omega)]
     have e:x=y:=by omega
     subst e
     rcases ih t (by simpa using h) h1 with h | h
     ·exact .inl (by rw[h])
     ·exact .inr h
theorem a6a {d':Array R8}(hs:SortedIn (ltOf a1l) 0 d'.size d')(hnd:d'.toList.Nodup):a8m d'.toList:=by
 unfold a8m
 rw[List.pairwise_iff_getElem]
 intro i j hi hj hij
 have hi':i<d'.size:=by simpa using hi
 have hj':j<d'.size:=by simpa using hj
 have h:=hs i j (Nat.zero_le _) hij hj'
 have e1:d'[i]! =d'[i]:=getElem!_pos d' i hi'
 have e2:d'[j]! =d'[j]:=getElem!_pos d' j hj'
 rw[e1,e2] at h
 unfold ltOf a1l at h
 rw[decide_eq_false_iff_not] at h
 rcases ax4 _ _ (by rfl) h with e | e
 ·exact absurd (R8.l_inj e) ((List.pairwise_iff_getElem.1 hnd) i j hi hj hij)
 ·exact e
theorem a7v (w:World):Calls Tryz.prog 194 #[.slice none 0 0,.int .i64 0,.int .i64 0,.func (.func 87) #[] #[]] w fun e w'=>e=.returned (.tuple #[])∧w'=w:=by
 go_enter Tryz.func194,Tryz.ntmps194
 go_wp2
 go_loopw [8] (fun s wr=>s=.int .i64 1∧wr=w) (fun _ _=>0)
 case atStart=>exact⟨rfl,rfl⟩
 case round=>
  obtain⟨rfl,rfl⟩:=hrel
  go_wp2
  go_end0
  exact⟨rfl,rfl⟩
theorem a7o (k:Int)(w:World):Calls Tryz.prog 164 #[.slice none 0 0,.int .i64 0,.int .i64 0,.int .i64 k,.func (.func 87) #[] #[]] w fun e w'=>e=.returned (.tuple #[])∧w'=w:=by
 go_enter Tryz.func164,Tryz.ntmps164
 go_wp2
 go_loopw [1,2,3,10,11] (fun s1 s2 s3 s10 s11 wr=>s1=.int .i64 0∧s2=.int .i64 0∧wr=w) (fun _ _ _ _ _ _=>0)
 case atStart=>exact⟨rfl,rfl,rfl⟩
 case round=>
  obtain⟨rfl,rfl,rfl⟩:=hrel
  go_wp2_with fail
  refine(a7v _).mono ?_
  rintro e w1 ⟨rfl,rfl⟩
  go_wp2
  refine bodyPost_ret (results_none rfl _ _ _) rfl ?_
  exact⟨rfl,rfl⟩
theorem asp (w:World):Calls Tryz.prog 128 #[.slice none 0 0,.func (.func 87) #[] #[]] w fun e w'=>e=.returned (.tuple #[])∧Below w.heap.size w w':=by
 have hl:Calls Tryz.prog 159 #[.int .u64 0] w fun e w'=>e=.returned (.int .i64 (Lib.bitLen 0:Nat))∧w'=w:=by
  have L:=Tryz.sortRow
  exact Any.bits_Len (SlLaysF0.n15.bits {L with}) 0 w (by omega) (by omega)
 go_enter Tryz.func128,Tryz.ntmps128
 go_wp2_with fail
 refine hl.mono ?_
 rintro e w1 ⟨rfl,rfl⟩
 go_wp2_with fail
 refine(a7o _ _).mono ?_
 rintro e w1 ⟨rfl,rfl⟩
 go_wp2
 go_end0
 exact⟨rfl,Below.refl _ _⟩
set_option maxHeartbeats 1000000 in
theorem awl (Bm b nn:Nat)(hnn:nn≤4096)(f:List Int→Option Value)(w:World)(hBm:Bm<w.heap.size)(hm:w.cell? ⟨Bm,0,none⟩=some (.map (some b)))(hown:MapR w b nn f):
  Calls Tryz.prog 85 #[.func (.func 129) #[] #[.pointer (some ⟨Bm,0,none⟩)],.func (.func 87) #[] #[]] w fun e w'=> ∃(v:Value) (ss:List R8),e=.returned v∧a8m ss∧(∀r,r∈ss↔ako r.l∧(f r.l).isSome=true)∧w'.ownsRow w.heap.size 162 8 v ss.length (ado ss)∧Below w.heap.size w w':=by
 have hc:=callsIn_wide.1 (axy 3 (by decide) #[.pointer (some ⟨Bm,0,none⟩)] _ nn (by omega) w (axf 1 (by decide) Bm b nn f w hBm hm hown))
 go_enter Tryz.func85,Tryz.ntmps85
 go_wp2_with fail
 refine hc.mono ?_
 rintro e W ⟨v,ss,rfl,⟨⟨hnd,hS⟩,hlen⟩,hrow,hb⟩
 rcases hrow.2 with ⟨rfl,hz⟩ | ⟨gb,cap,cur,rfl,hbase,hgb,r1,r2,r3,r4⟩
 ·have hss:ss=[]:=List.eq_nil_of_length_eq_zero hz
  subst hss
  go_wp2_with fail
  refine(asp W).mono ?_
  rintro e w2 ⟨rfl,hb2⟩
  go_wp2
  go_ret
  exact⟨_,[],rfl,List.Pairwise.nil,hS,World.ownsRow_nil _ _ _ _,hb.trans (hb2.mono hb.size)⟩
 ·have hH:HoldsK ahn 8 W gb 0 ss.toArray:=a71 hgb r4
  have hgl:gb<W.heap.size:=(Array.getElem?_eq_some_iff.1 hgb).1
  have hsz:ss.toArray.size<4611686018427387904:=by simp;omega
  have cS:=aqa gb 0 cap ss.toArray W hH hgl hsz
  rw[show ss.toArray.size=ss.length from by simp] at cS
  go_wp2_with fail
  refine cS.mono ?_
  rintro e w' ⟨rfl,d',n,os,hperm,hsort,rfl⟩
  go_wp2
  go_ret
  obtain⟨hs1,_,hp⟩:=hperm
  have hsz2:d'.size=ss.length:=by rw[hs1];simp
  have hp':d'.toList.Perm ss:=by
   rw[←hsz2,Array.extract_size] at hp
   rw[hsz2] at hp
   simpa using hp
  have hrow':=a8r (n:=n) (os:=os) (ts:=d'.toList) (ss:=ss) (base:=w.heap.size) (by simpa using hsz2) hbase hgb r1 r2 r3
  rw[←hsz2] at hsort
  exact⟨_,d'.toList,rfl,a6a hsort (hp'.nodup_iff.2 hnd),fun r=>(hp'.mem_iff).trans (hS r),by simpa using hrow',hb.grown (a73 _) hb.size (fun j hj=>by cases hj;exact hbase)⟩
end Go.Proofs.YtfhpgmlfgjfknaaGreatDoor
namespace Go.Proofs.YtfhpgmlfgjfknaaGreatDoor
open Go.RowKit Go.Vf Go.Maps Go.Sort
theorem auq: ∀(p q:List Int) (n:Nat),(∀x∈p,0≤x)→(∀x∈q,0≤x)→p.length≤n→q.length≤n→aaj (p++List.replicate (n-p.length) (-1)) (q++List.replicate (n-q.length) (-1))=aaj p q:=by
 intro p
 induction p with
 | nil=>
  intro q n hp hq h1 h2
  cases q with
  | nil=>exact ac4 _
  | cons y t=>
   cases n with
   | zero=>simp at h2
   | succ m=>
    have hy:=hq y (by simp)
    simp only[List.nil_append,List.length_nil,Nat.sub_zero,List.replicate_succ,List.cons_append,aaj]
    rw[if_pos (by omega)]
 | cons x r ih=>
  intro q n hp hq h1 h2
  have hx:=hp x (by simp)
  cases n with
  | zero=>simp at h1
  | succ m=>
   cases q with
   | nil=>
    simp only[List.nil_append,List.length_nil,Nat.sub_zero,List.replicate_succ,List.cons_append,aaj]
    rw[if_neg (by omega),if_pos (by omega)]
   | cons y t=>
    have:=ih t m (fun z hz=>hp z (by simp[hz])) (fun z hz=>hq z (by simp[hz])) (by simpa using h1) (by simpa using h2)
    simp only[List.cons_append,List.length_cons,Nat.add_sub_add_right,aaj,this]
theorem ayy {p:List Int}(h:adp p=true): ∀x∈p,0≤x:=by
 intro x hx
 unfold adp at h
 simp only[Bool.and_eq_true,List.all_eq_true] at h
 obtain⟨u,rfl,hu⟩:=ad7 (h.2 x hx)
 omega
theorem ax5 {p q:List Int}(hp:adp p=true)(hq:adp q=true):aaj (acu p) (acu q)=aaj p q:=
 auq p q 8 (ayy hp) (ayy hq) (abf hp).2 (abf hq).2
def akp (l:List Ent):Prop:=l.Pairwise fun a b=>aaj a.1 b.1<0
theorem ar6 {a b:List Int}(h:aaj a b<0): ¬aaj b a<0:=fun h2=>by
 have:=aeb _ _ _ h h2
 rw[ac4] at this
 omega
theorem a2s {a b:List Ent}(hp:a.Perm b)(ha:akp a)(hb:akp b):a=b:=
 List.Perm.eq_of_pairwise (le:=fun x y:Ent=>aaj x.1 y.1<0) (fun _ _ _ _ h1 h2=>absurd h2 (ar6 h1)) ha hb hp
def ajz (E:List Ent)(r:R8):Ent:=(E.find? (fun e=>acu e.1==r.l)).getD ([],[])
theorem arm {E:List Ent}{val:List Int→Value}{r:R8}(h:(aml val E r.l).isSome=true):ajz E r∈E∧acu (ajz E r).1=r.l:=by
 have h':E.any (fun e=>acu e.1==r.l)=true:=by
  unfold aml at h
  split at h
  ·assumption
  ·simp at h
 unfold ajz
 cases hf:E.find? (fun e=>acu e.1==r.l) with
 | none=>
  obtain⟨x,hx,hx2⟩:=List.any_eq_true.1 h'
  exact absurd hx2 (List.find?_eq_none.1 hf x hx)
 | some x=>
  exact⟨List.mem_of_find?_eq_some hf,by simpa using List.find?_some hf⟩
theorem ape {E:List Ent}(h:(E.map Prod.fst).Nodup):E.Nodup:=List.Pairwise.of_map Prod.fst (fun _ _ hne e=>hne (by rw[e])) h
theorem a6m: ∀ {E:List Ent},(E.map Prod.fst).Nodup→ ∀ {x y:Ent},x∈E→y∈E→x.1=y.1→x=y:=by
 intro E
 induction E with
 | nil=>intro _ x y hx;cases hx
 | cons a r ih=>
  intro h x y hx hy e
  rw[List.map_cons,List.nodup_cons] at h
  rcases List.mem_cons.1 hx with rfl | hx'
  ·rcases List.mem_cons.1 hy with rfl | hy'
   ·rfl
   ·exact absurd (e▸List.mem_map_of_mem hy') h.1
  ·rcases List.mem_cons.1 hy with rfl | hy'
   ·exact absurd (e▸List.mem_map_of_mem hx') h.1
   ·exact ih h.2 hx' hy' e
theorem a06 {E:List Ent}{val:List Int→Value}{ss:List R8}(hok: ∀e∈E,EntOk e)(hnd:(E.map Prod.fst).Nodup)(hr:a8m ss)(hm: ∀r,r∈ss↔ako r.l∧(aml val E r.l).isSome=true):
  akp (ss.map (ajz E))∧(ss.map (ajz E)).Perm E:=by
 have hsp: ∀r∈ss,ajz E r∈E∧acu (ajz E r).1=r.l:=fun r hr=>arm ((hm r).1 hr).2
 have hR:akp (ss.map (ajz E)):=by
  unfold akp
  rw[List.pairwise_map]
  refine List.Pairwise.imp_of_mem (fun {a b} ha hb h=> ?_) hr
  obtain⟨ha1,ha2⟩:=hsp a ha
  obtain⟨hb1,hb2⟩:=hsp b hb
  rw[←ax5 (hok _ ha1).row (hok _ hb1).row,ha2,hb2]
  exact h
 refine⟨hR,(List.perm_ext_iff_of_nodup ?_ (ape hnd)).2 fun e=> ?_⟩
 ·refine List.Pairwise.imp (fun {a b} h e=> ?_) hR
  rw[e,ac4] at h
  omega
 ·constructor
  ·intro he
   obtain⟨r,hr,rfl⟩:=List.mem_map.1 he
   exact(hsp r hr).1
  ·intro he
   have hin:=aqc (hok e he).row
   have hl:(R8.of (acu e.1)).l=acu e.1:=R8.l_of hin.1
   have hmem:R8.of (acu e.1)∈ss:=by
    refine(hm _).2 ?_
    rw[hl]
    refine⟨hin,?_⟩
    unfold aml
    rw[if_pos (List.any_eq_true.2 ⟨e,he,by simp⟩)]
    try rfl
   refine List.mem_map.2 ⟨_,hmem,?_⟩
   obtain⟨h1,h2⟩:=hsp _ hmem
   rw[hl] at h2
   have hf:=ao8 (hok _ h1).row (hok e he).row h2
   exact a6m hnd h1 he hf
def aht (vs:List (Value×Value)):List Value:=vs.flatMap fun p=>[p.1,p.2]
theorem an0 (vs:List (Value×Value))(p e:Value):aht (vs++[(p,e)])=aht vs++[p,e]:=by simp[aht]
theorem a4d: ∀(vs:List (Value×Value)) (j:Nat) (hj:j<vs.length),(aht vs)[j*2]? =some vs[j].1∧(aht vs)[j*2+1]? =some vs[j].2:=by
 intro vs
 induction vs with
 | nil=>intro j hj;simp at hj
 | cons a r ih=>
  intro j hj
  have e:aht (a::r)=a.1::a.2::aht r:=by simp[aht]
  rw[e]
  cases j with
  | zero=>exact⟨rfl,rfl⟩
  | succ j=>
   have:=ih j (by simpa using hj)
   rw[show (j+1)*2=j*2+1+1 by omega]
   simpa using this
theorem azs {vs:List (Value×Value)}{u:Value}(h:u∈aht vs): ∃j,∃hj:j<vs.length,u=vs[j].1∨u=vs[j].2:=by
 unfold aht at h
 obtain⟨p,hp,hu⟩:=List.mem_flatMap.1 h
 obtain⟨j,hj,rfl⟩:=List.mem_iff_getElem.1 hp
 refine⟨j,hj,?_⟩
 simpa using hu
structure EntsO (w:World)(base:Nat)(v:Value)(vs:List (Value×Value))(E:List Ent):Prop where
 row:w.ownsRow base 160 2 v E.length (aht vs)
 len:vs.length=E.length
 pts: ∀j (h1:j<vs.length) (h2:j<E.length),IOwn w base vs[j].1 E[j].1
 els: ∀j (h1:j<vs.length) (h2:j<E.length),EOwn w base vs[j].2 E[j].2
 apt:(aht vs).Pairwise Apt
theorem EntsO.nil (w:World)(base:Nat):EntsO w base (.slice none 0 0) [] []:=⟨World.ownsRow_nil _ _ _ _,rfl,fun j h=>by simp at h,fun j h=>by simp at h,List.Pairwise.nil⟩
section
variable {w:World}{base:Nat}{v:Value}{vs:List (Value×Value)}{E:List Ent}
theorem EntsO.lt (h:EntsO w base v vs E): ∀u∈aht vs,∀g,u.ownBlock=some g→g<w.heap.size:=by
 intro u hu g hg
 obtain⟨j,hj,rfl | rfl⟩:=azs hu
 ·exact alh (h.pts j hj (h.len▸hj)) g hg
 ·exact alh (h.els j hj (h.len▸hj)) g hg
theorem EntsO.below {w':World}{n:Nat}(h:EntsO w base v vs E)(hb:Below n w w')(hn:w.heap.size≤n):EntsO w' base v vs E:=by
 have q: ∀ {u:Value} {b:Nat} {e:TypeId} {s k:Nat} {xs:List Value},w.ownsRow b e s u k xs→w'.ownsRow b e s u k xs:=fun hu=>adj hu (fun g hg=>hb.block g (by have:=alh hu g hg;omega))
 exact⟨q h.row,h.len,fun j h1 h2=>q (h.pts j h1 h2),fun j h1 h2=>q (h.els j h1 h2),h.apt⟩
theorem EntsO.mono {b':Nat}(h:EntsO w base v vs E)(hb:b'≤base):EntsO w b' v vs E:=
 ⟨aai h.row hb,h.len,fun j h1 h2=>aai (h.pts j h1 h2) hb,fun j h1 h2=>aai (h.els j h1 h2) hb,h.apt⟩
theorem EntsO.snoc {w6:World}{pv ev v':Value}{e:Ent}{o:Obj}{m:Nat}(h:EntsO w base v vs E)(hp:IOwn w base pv e.1)(he:EOwn w base ev e.2)
  (hlt: ∀u∈aht vs,∀g,u.ownBlock=some g→g<m) (hpm: ∀g,pv.ownBlock=some g→m≤g) (hem: ∀g,ev.ownBlock=some g→m≤g)
  (hrow:w6.ownsRow base 160 2 v' (E.length+1) (aht vs++[pv,ev])) (hg:(w.alloc o).grownBy w6 v.ownBlock):EntsO w6 base v' (vs++[(pv,ev)]) (E++[e]):=by
 have q: ∀ {u:Value} {b:Nat} {t:TypeId} {s k:Nat} {xs:List Value},w.ownsRow b t s u k xs→160≠t→w6.ownsRow b t s u k xs:=fun hu ht=>acv (hu.alloc o) hg (afb (h.row.alloc o) (hu.alloc o) ht)
 refine⟨?_,by simp[h.len],fun j h1 h2=> ?_,fun j h1 h2=> ?_,?_⟩
 ·rw[an0,List.length_append];exact hrow
 ·by_cases hj:j<vs.length
  ·have hj2:j<E.length:=h.len▸hj
   rw[List.getElem_append_left hj,List.getElem_append_left hj2]
   exact q (h.pts j hj hj2) (by decide)
  ·have e1:j=vs.length:=by simp at h1;omega
   have e2:j=E.length:=by rw[e1,h.len]
   rw[List.getElem_append_right (by omega),List.getElem_append_right (by omega)]
   simp only[e1,h.len,Nat.sub_self,List.getElem_cons_zero]
   exact q hp (by decide)
 ·by_cases hj:j<vs.length
  ·have hj2:j<E.length:=h.len▸hj
   rw[List.getElem_append_left hj,List.getElem_append_left hj2]
   exact q (h.els j hj hj2) (by decide)
  ·have e1:j=vs.length:=by simp at h1;omega
   have e2:j=E.length:=by rw[e1,h.len]
   rw[List.getElem_append_right (by omega),List.getElem_append_right (by omega)]
   simp only[e1,h.len,Nat.sub_self,List.getElem_cons_zero]
   exact q he (by decide)
 ·rw[an0,List.pairwise_append]
  refine⟨h.apt,?_,fun a ha b hb=> ?_⟩
  ·have:=afb hp he (by decide)
   simpa using this
  ·intro g h1 h2
   have:=hlt a ha g h1
   simp at hb
   rcases hb with rfl | rfl
   ·have:=hpm g h2;omega
   ·have:=hem g h2;omega
end
theorem EntsO.inn {w:World}{base:Nat}{v:Value}{vs:List (Value×Value)}{E:List Ent}(h:EntsO w base v vs E):EIn w.heap.size w v E:=by
 rcases h.row.2 with ⟨rfl,h0⟩ | ⟨g,cap,cur,rfl,hb,hg,hn,hm,hs,ht⟩
 ·exact .inl ⟨_,_,rfl,List.eq_nil_of_length_eq_zero h0⟩
 ·have hB:Blk w g 160 cur:=hg
  refine .inr ⟨g,0,cap,rfl,hB.lt,fun j hj=> ?_⟩
  have hj1:j<vs.length:=h.len▸hj
  obtain⟨f1,f2⟩:=a4d vs j hj1
  have hp:=h.pts j hj1 hj
  have he:=h.els j hj1 hj
  obtain⟨pa,pc,hpv⟩:=aax hp
  obtain⟨ea,ec,hev⟩:=aax he
  have q: ∀k,k<E.length*2→w.cell? ⟨g,0+k,none⟩=(aht vs)[k]?:=fun k hk=>by
   rw[Nat.zero_add,hB.cell,←ht,List.getElem?_take_of_lt hk,Array.getElem?_toList]
  refine⟨pa,pc,ea,ec,?_,?_,?_,?_⟩
  ·rw[q _ (by omega),f1,hpv]
  ·rw[Nat.add_assoc,q _ (by omega),f2,hev]
  ·have:=IOwn.ints hp
   rwa [hpv] at this
  ·have:=EOwn.els he
   rwa [hev] at this
end Go.Proofs.YtfhpgmlfgjfknaaGreatDoor
