/- Contracts and lemmas (nothing is claimed here). -/
import Derived.Test.YtfhpgmlfgjfknaaGreatDoorJ32
import Derived.ArgAppend
namespace Go.Proofs.YtfhpgmlfgjfknaaGreatDoor
open Go.RowKit Go.Vf Go.Maps
set_option maxHeartbeats 4000000 in
set_option maxRecDepth 20000 in
theorem amr (l:List PM)(hrise:(l.map PM.point).Pairwise (· < ·))(hll:l.length≤1048576)(da:Option Addr)(dn dc:Nat)(p:Int)(n₀:Nat)(w:World)(hn₀:n₀≤w.heap.size)(hin:MIn n₀ w (.slice da dn dc) l):
  Calls Tryz.prog 56 #[.agg #[.slice da dn dc],.int .i64 p] w fun e w'=>e=.returned (.int .i64 (asf l p))∧Below w.heap.size w w':=by
 have hb0:=(Below.refl w.heap.size w).alloc (Nat.le_refl _) (.cells #[.slice da dn dc] 62)
 have hbn:=Blk.new w 62 #[.slice da dn dc]
 have hM:=ah6 l hrise hll (.slice da dn dc) p n₀ (w.alloc (.cells #[.slice da dn dc] 62)) (by simp;omega) (hin.below hb0 hn₀)
 have e0:(w.alloc (.cells #[.slice da dn dc] 62)).cell? ⟨w.heap.size,0,none⟩=some (.slice da dn dc):=hbn.cell 0
 go_enter Tryz.func56,Tryz.ntmps56
 go_wp2_with fail
 refine hM.mono ?_
 rintro e w2 ⟨hb2,pa,pk,pc,rfl,hpi⟩
 have hfd:=a03 (.int .i64 p) (.int .i64 (asf l p)) (.slice pa pk pc) w2
 go_wp2_with fail
 go_ret
 exact⟨rfl,hb0.trans (hb2.mono hb0.size)⟩
theorem atu {p:Int}(h:(p-44032) % 28=0):aa5 p=[4352+(p-44032)/588,4449+(p-44032) % 588/28]:=by
 unfold aa5
 rw[if_pos h]
theorem atv {p:Int}(h: ¬(p-44032) % 28=0):aa5 p=[4352+(p-44032)/588,4449+(p-44032) % 588/28,4519+(p-44032) % 28]:=by
 unfold aa5
 rw[if_neg h]
 try rfl
set_option maxHeartbeats 4000000 in
set_option maxRecDepth 20000 in
theorem ayb (l:List PM)(da:Option Addr)(dn dc n₀ lim:Nat)(_hlim:lim≤1073741824)(k:Nat)(p:Int)(hsy:ab7 p=true)(hq: ∀q∈aa5 p,ajf l da dn dc n₀ lim k q)(w:World)(hlen:((aa5 p).foldl (fun o q=>whF (aal l) lim k o q) []).length≤1000000)(hn₀:n₀≤w.heap.size)(hin:MIn n₀ w (.slice da dn dc) l):
  Calls Tryz.prog 98 #[.agg #[.slice da dn dc],.slice none 0 0,.int .i64 p,.int .i64 (lim:Int)] w fun e w'=> ∃a n c,e=.returned (.slice a n c)∧IOwn w' w.heap.size (.slice a n c) ((aa5 p).foldl (fun o q=>whF (aal l) lim k o q) [])∧Below w.heap.size w w':=by
 have hr:44032≤p∧p≤55203:=by simpa[ab7] using hsy
 have hb0:=(Below.refl w.heap.size w).alloc (Nat.le_refl _) (.cells #[.slice da dn dc] 62)
 have hbn:=Blk.new w 62 #[.slice da dn dc]
 have hS:=agz p (w.alloc (.cells #[.slice da dn dc] 62))
 rw[hsy] at hS
 have e0:(w.alloc (.cells #[.slice da dn dc] 62)).cell? ⟨w.heap.size,0,none⟩=some (.slice da dn dc):=hbn.cell 0
 have hin0:=hin.below hb0 hn₀
 have hsz0:w.heap.size≤(w.alloc (.cells #[.slice da dn dc] 62)).heap.size:=by simp
 obtain⟨z,hz⟩: ∃z,p-44032=z:=⟨_,rfl⟩
 have hzr:0≤z∧z≤11171:=by omega
 have HX:Hid (aa5 p=if z % 28=0 then [4352+z/588,4449+z % 588/28] else [4352+z/588,4449+z % 588/28,4519+z % 28]):=by
  show _=_
  rw[←hz]
  split
  ·rename_i h;exact atu h
  ·rename_i h;exact atv h
 by_cases ht:z % 28=0
 ·rw[if_pos ht] at HX
  rw[HX.out] at hq hlen⊢
  have hqA:=hq (4352+z/588) (by simp)
  have hqB:=hq (4449+z % 588/28) (by simp)
  simp only[List.foldl_cons,List.foldl_nil] at hlen⊢
  have hlA:=Nat.le_trans (agy (aal l) lim k (whF (aal l) lim k [] (4352+z/588)) (4449+z % 588/28)) hlen
  have hA:=hqA [] (.slice none 0 0) w.heap.size (w.alloc (.cells #[.slice da dn dc] 62)) hlA hn₀ hsz0 hin0 (IOwn.nil _ _)
  have ht2:decide ((0:Int)<z % 28)=false:=by simp;omega
  generalize whF (aal l) lim k [] (4352+z/588)=R0 at hA hlA hlen⊢
  go_enter Tryz.func98,Tryz.ntmps98
  go_wp2_with fail
  refine hS.mono ?_
  rintro e w1 ⟨rfl,rfl⟩
  go_wp2_with fail
  refine hA.mono ?_
  rintro e w2 ⟨a2,n2,c2,rfl,hown2,hg2⟩
  have hbel2:Below w.heap.size (w.alloc (.cells #[.slice da dn dc] 62)) w2:=hg2.below hsz0 (fun i hi=>by cases hi)
  have hbox2:Blk w2 w.heap.size 62 #[.slice da dn dc]:=(hg2.by_.block w.heap.size hbn.lt (by intro e;cases e)).trans hbn
  have f0:w2.cell? ⟨w.heap.size,0,none⟩=some (.slice da dn dc):=hbox2.cell 0
  have hs2:w.heap.size≤w2.heap.size:=Nat.le_trans hsz0 hbel2.size
  have hB:=hqB R0 (.slice a2 n2 c2) w.heap.size w2 hlen hn₀ hs2 (hin0.below hbel2 hn₀) hown2
  go_wp2_with fail
  refine hB.mono ?_
  rintro e w3 ⟨a3,n3,c3,rfl,hown3,hg3⟩
  have hbel3:Below w.heap.size w2 w3:=hg3.below hs2 (fun i hi=>(aan hown2 hi).1)
  go_wp2_with fail
  go_ret
  exact⟨a3,n3,c3,rfl,hown3,(hb0.trans hbel2).trans hbel3⟩
 ·rw[if_neg ht] at HX
  rw[HX.out] at hq hlen⊢
  have hqA:=hq (4352+z/588) (by simp)
  have hqB:=hq (4449+z % 588/28) (by simp)
  have hqT:=hq (4519+z % 28) (by simp)
  simp only[List.foldl_cons,List.foldl_nil] at hlen⊢
  have hlB:=Nat.le_trans (agy (aal l) lim k (whF (aal l) lim k (whF (aal l) lim k [] (4352+z/588)) (4449+z % 588/28)) (4519+z % 28)) hlen
  have hlA:=Nat.le_trans (agy (aal l) lim k (whF (aal l) lim k [] (4352+z/588)) (4449+z % 588/28)) hlB
  have hA:=hqA [] (.slice none 0 0) w.heap.size (w.alloc (.cells #[.slice da dn dc] 62)) hlA hn₀ hsz0 hin0 (IOwn.nil _ _)
  have ht2:decide ((0:Int)<z % 28)=true:=by simp;omega
  generalize whF (aal l) lim k [] (4352+z/588)=R0 at hA hlA hlB hlen⊢
  go_enter Tryz.func98,Tryz.ntmps98
  go_wp2_with fail
  refine hS.mono ?_
  rintro e w1 ⟨rfl,rfl⟩
  go_wp2_with fail
  refine hA.mono ?_
  rintro e w2 ⟨a2,n2,c2,rfl,hown2,hg2⟩
  have hbel2:Below w.heap.size (w.alloc (.cells #[.slice da dn dc] 62)) w2:=hg2.below hsz0 (fun i hi=>by cases hi)
  have hbox2:Blk w2 w.heap.size 62 #[.slice da dn dc]:=(hg2.by_.block w.heap.size hbn.lt (by intro e;cases e)).trans hbn
  have f0:w2.cell? ⟨w.heap.size,0,none⟩=some (.slice da dn dc):=hbox2.cell 0
  have hs2:w.heap.size≤w2.heap.size:=Nat.le_trans hsz0 hbel2.size
  have hB:=hqB R0 (.slice a2 n2 c2) w.heap.size w2 hlB hn₀ hs2 (hin0.below hbel2 hn₀) hown2
  go_wp2_with fail
  refine hB.mono ?_
  rintro e w3 ⟨a3,n3,c3,rfl,hown3,hg3⟩
  have hbel3:Below w.heap.size w2 w3:=hg3.below hs2 (fun i hi=>(aan hown2 hi).1)
  have hbox3:Blk w3 w.heap.size 62 #[.slice da dn dc]:=(hg3.by_.block w.heap.size hbox2.lt (aa9 hown2 hbox2 (by decide))).trans hbox2
  have f1:w3.cell? ⟨w.heap.size,0,none⟩=some (.slice da dn dc):=hbox3.cell 0
  have hs3:w.heap.size≤w3.heap.size:=Nat.le_trans hs2 hbel3.size
  have hT:=hqT (whF (aal l) lim k R0 (4449+z % 588/28)) (.slice a3 n3 c3) w.heap.size w3 hlen hn₀ hs3 ((hin0.below hbel2 hn₀).below hbel3 hn₀) hown3
  go_wp2_with fail
  refine hT.mono ?_
  rintro e w4 ⟨a4,n4,c4,rfl,hown4,hg4⟩
  have hbel4:Below w.heap.size w3 w4:=hg4.below hs3 (fun i hi=>(aan hown3 hi).1)
  go_wp2_with fail
  go_ret
  exact⟨a4,n4,c4,rfl,hown4,((hb0.trans hbel2).trans hbel3).trans hbel4⟩
def aqt (l:List PM)(k:Nat)(p:Int):List Int:=if ab7 p then (aa5 p).foldl (fun o q=>whF (aal l) 1073741824 k o q) [] else whF (aal l) 1073741824 k [] p
set_option maxHeartbeats 4000000 in
set_option maxRecDepth 20000 in
theorem aqg (l:List PM)(hrise:(l.map PM.point).Pairwise (· < ·))(hll:l.length≤1048576)(hns: ∀p,∀q∈aal l p,ab7 q=false)(hpl: ∀p,(aal l p).length≤131072)(k:Nat)(hdep: ∀p,Dep (aal l) k p)(da:Option Addr)(dn dc n₀:Nat)(p:Int)(hlen:(aqt l k p).length≤1000000)(w:World)(hn₀:n₀≤w.heap.size)(hin:MIn n₀ w (.slice da dn dc) l):
  Calls Tryz.prog 55 #[.agg #[.slice da dn dc],.int .i64 p] w fun e w'=> ∃a n c,e=.returned (.slice a n c)∧IOwn w' w.heap.size (.slice a n c) (aqt l k p)∧Below w.heap.size w w':=by
 have hb0:=(Below.refl w.heap.size w).alloc (Nat.le_refl _) (.cells #[.slice da dn dc] 62)
 have hbn:=Blk.new w 62 #[.slice da dn dc]
 have e0:(w.alloc (.cells #[.slice da dn dc] 62)).cell? ⟨w.heap.size,0,none⟩=some (.slice da dn dc):=hbn.cell 0
 have hin0:=hin.below hb0 hn₀
 have hsz0:w.heap.size≤(w.alloc (.cells #[.slice da dn dc] 62)).heap.size:=by simp
 have hall:=aj8 l hrise hll hns hpl da dn dc n₀ 1073741824 (Nat.le_refl _) k
 unfold aqt at hlen⊢
 cases hsy:ab7 p with
 | true=>
  rw[hsy] at hlen
  simp only[if_true] at hlen⊢
  have hc:=ayb l da dn dc n₀ 1073741824 (Nat.le_refl _) k p hsy (fun q hq=>hall q (atw hsy hq) (hdep q)) (w.alloc (.cells #[.slice da dn dc] 62)) hlen (Nat.le_trans hn₀ hsz0) hin0
  generalize (aa5 p).foldl (fun o q=>whF (aal l) 1073741824 k o q) []=R at hc⊢
  go_enter Tryz.func55,Tryz.ntmps55
  go_wp2_with fail
  refine hc.mono ?_
  rintro e w2 ⟨a2,n2,c2,rfl,hown2,hb2⟩
  go_wp2_with fail
  go_ret
  exact⟨a2,n2,c2,rfl,hown2.mono hsz0,hb0.trans (hb2.mono hsz0)⟩
 | false=>
  rw[hsy] at hlen
  simp only[Bool.false_eq_true,if_false] at hlen⊢
  have hc:=hall p hsy (hdep p) [] (.slice none 0 0) w.heap.size (w.alloc (.cells #[.slice da dn dc] 62)) hlen hn₀ hsz0 hin0 (IOwn.nil _ _)
  generalize whF (aal l) 1073741824 k [] p=R at hc⊢
  go_enter Tryz.func55,Tryz.ntmps55
  go_wp2_with fail
  refine hc.mono ?_
  rintro e w2 ⟨a2,n2,c2,rfl,hown2,hg2⟩
  go_wp2_with fail
  go_ret
  exact⟨a2,n2,c2,rfl,hown2,hb0.trans (hg2.below hsz0 (fun i hi=>by cases hi))⟩
theorem anl {L:List Mk}(hnd:(L.map Mk.point).Nodup)(p:Int):a2w (aag L) p=(aau L p).map aks:=by
 have hrise:=acl hnd
 have hperm:=ae3 hnd
 rcases ajs (L:=L) p with ⟨h0,hn⟩ | ⟨m,hm,rfl,h0⟩
 ·rw[h0]
  refine azb fun i hi e=> ?_
  have hx:=hperm.subset (List.getElem_mem hi)
  obtain⟨x,hx1,hx2⟩:=List.mem_map.1 hx
  refine hn (List.mem_map.2 ⟨x,hx1,?_⟩)
  rw[←e,←hx2]
  try rfl
 ·rw[h0]
  have hin:aks m∈aag L:=hperm.symm.subset (List.mem_map.2 ⟨m,hm,rfl⟩)
  obtain⟨i,hi,e⟩:=List.mem_iff_getElem.1 hin
  have:=azc hrise hi (p:=m.point) (by rw[e];rfl)
  rw[this,e]
  try rfl
theorem afj {L:List Mk}(hnd:(L.map Mk.point).Nodup):aal (aag L)=aab L:=funext fun p=>by
 unfold aal aab
 rw[anl hnd]
 cases aau L p<;>rfl
theorem axz {L:List Mk}(hnd:(L.map Mk.point).Nodup):asf (aag L)=aaa L:=funext fun p=>by
 unfold asf aaa
 rw[anl hnd]
 cases aau L p<;>rfl
theorem a4p {t:List UInt8}{L:List Mk}{E:Int→List Int}(h:aaw t=.ok (L,E)): ∃k,(∀p,Dep (aab L) k p)∧ ∀p,E p=agw (aab L) k p:=by
 obtain⟨_,_,_,_,ord,ht,hord,he⟩:=acx h
 refine⟨ord.length+1,fun p=> ?_,he _ (Nat.le_refl _)⟩
 by_cases hG:aab L p=[]
 ·exact Dep.leaf hG _
 ·obtain⟨m,hm,e⟩:=ac2 hG
  have hp:p∈ord:=by rw[←e];exact hord m hm
  obtain⟨pre,post,hs⟩:=List.append_of_mem hp
  exact Dep.of_topo ht (ord.length+1) pre p post (by rw[hs];simp;omega) hs
theorem am7 {t:List UInt8}{L:List Mk}{E:Int→List Int}(h:aaw t=.ok (L,E)){k:Nat}(he: ∀p,E p=agw (aab L) k p)(p:Int):wh (aab L) k p=aak E p∧(aak E p).length≤18:=by
 obtain⟨_,_,_,hsh,_⟩:=acx h
 by_cases hG:aab L p=[]
 ·have e0:E p=[]:=by rw[he];unfold agw;rw[if_pos hG]
  unfold aak
  rw[if_pos e0,ah2 hG]
  exact⟨rfl,by simp⟩
 ·obtain⟨m,hm,e⟩:=ac2 hG
  have e1:E p=(wh (aab L) k p).take 19:=by rw[he];unfold agw;rw[if_neg hG]
  have h18:(E p).length≤18:=by rw[←e];exact hsh m hm
  have hw:(wh (aab L) k p).length≤18:=by
   rw[e1,List.length_take] at h18
   omega
  rw[List.take_of_length_le (by omega)] at e1
  have hne:E p≠ []:=by rw[e1];exact a2c _ _
  unfold aak
  rw[if_neg hne]
  exact⟨e1.symm,h18⟩
theorem a6n {t:List UInt8}{L:List Mk}{E:Int→List Int}(h:aaw t=.ok (L,E)){k:Nat}(he: ∀p,E p=agw (aab L) k p): ∀(qs:List Int) (o:List Int),o.length+18*qs.length≤1073741824→qs.foldl (fun o q=>whF (aab L) 1073741824 k o q) o=o++qs.flatMap (aak E):=by
 intro qs
 induction qs with
 | nil=>intro o _;simp
 | cons a r ih=>
  intro o ho
  simp only[List.length_cons] at ho
  obtain⟨e,hl⟩:=am7 h he a
  rw[List.foldl_cons,auv _ _ _ _ _ (by omega),e,List.take_of_length_le (by rw[List.length_append];omega),ih _ (by rw[List.length_append];omega)]
  simp
theorem aqs {t:List UInt8}{L:List Mk}{E:Int→List Int}(h:aaw t=.ok (L,E)){k:Nat}(he: ∀p,E p=agw (aab L) k p)(p:Int):aqt (aag L) k p=aa4 E p:=by
 obtain⟨hlen,hl,_⟩:=acx h
 have hnd:=(abc hlen hl).2.1
 unfold aqt aa4
 rw[afj hnd]
 split
 ·rename_i hs
  have h3:=(agl hs).2.1
  rw[a6n h he _ _ (by simp;omega)]
  simp
 ·obtain⟨e,h18⟩:=am7 h he p
  rw[auv _ _ _ _ _ (by simp),List.nil_append,e,List.take_of_length_le (by omega)]
structure BF (l:List PM)(p:Int)(todo:List Int)(mt:List Bool)(x:Int)(rest:List Int):Prop where
 len:mt.length=l.length
 reach: ∀t∈todo,Lead0 (aal l) p t
 left: ∀q∈rest,Lead (aal l) p q
 done: ∀y,(y=p∨ ∃k,∃h:k<l.length,mt[k]? =some true∧(l[k]).point=y)→y∈todo∨ ∀q∈aal l y,(q∈rest∧y=x)∨(q≠p∧ ∀k,∀h:k<l.length,(l[k]).point=q→mt[k]? =some true)
theorem BF.start (l:List PM)(p x:Int):BF l p [p] (List.replicate l.length false) x [] where
 len:=by simp
 reach:=by simp[Lead0.refl]
 left:=by simp
 done:=by
  rintro y (rfl | ⟨k,h,hm,_⟩)
  ·exact .inl (by simp)
  ·simp[h] at hm
theorem BF.pop {l:List PM}{p t x:Int}{ts:List Int}{mt:List Bool}(h:BF l p (t::ts) mt x []):BF l p ts mt t (aal l t) where
 len:=h.len
 reach:=fun y hy=>h.reach y (by simp[hy])
 left:=fun q hq=>(h.reach t (by simp)).step hq
 done:=fun y hy=>by
  rcases h.done y hy with h1 | h1
  ·rcases List.mem_cons.1 h1 with rfl | h2
   ·exact .inr fun q hq=>.inl ⟨hq,rfl⟩
   ·exact .inl h2
  ·refine .inr fun q hq=> ?_
   rcases h1 q hq with ⟨h2,_⟩ | h2
   ·simp at h2
   ·exact .inr h2
theorem BF.found {l:List PM}{p x:Int}{todo r:List Int}{mt:List Bool}(h:BF l p todo mt x (p::r)):Lead (aal l) p p:=h.left p (by simp)
theorem BF.pass {l:List PM}{p x q:Int}{todo r:List Int}{mt:List Bool}(h:BF l p todo mt x (q::r))(hq:q≠p)(hm: ∀k,∀h:k<l.length,(l[k]).point=q→mt[k]? =some true):BF l p todo mt x r where
 len:=h.len
 reach:=h.reach
 left:=fun y hy=>h.left y (by simp[hy])
 done:=fun y hy=>by
  rcases h.done y hy with h1 | h1
  ·exact .inl h1
  ·refine .inr fun z hz=> ?_
   rcases h1 z hz with ⟨h2,h3⟩ | h2
   ·rcases List.mem_cons.1 h2 with rfl | h4
    ·exact .inr ⟨hq,hm⟩
    ·exact .inl ⟨h4,h3⟩
   ·exact .inr h2
theorem BF.meet {l:List PM}(hrise:(l.map PM.point).Pairwise (· < ·)){p x q:Int}{todo r:List Int}{mt:List Bool}(h:BF l p todo mt x (q::r))(hq:q≠p){k:Nat}(hk:k<l.length)(hkq:(l[k]).point=q):BF l p (todo++[q]) (mt.set k true) x r where
 len:=by rw[List.length_set];exact h.len
 reach:=fun y hy=>by
  rcases List.mem_append.1 hy with h1 | h1
  ·exact h.reach y h1
  ·simp at h1
   subst h1
   exact .inr (h.left y (by simp))
 left:=fun y hy=>h.left y (by simp[hy])
 done:=fun y hy=>by
  have up: ∀j,mt[j]? =some true→(mt.set k true)[j]? =some true:=fun j hj=>by
   by_cases e:k=j
   ·subst e
    rw[List.getElem?_set_self (by rw[h.len];exact hk)]
   ·rw[List.getElem?_set_ne e];exact hj
  have uniq: ∀j,∀hj:j<l.length,(l[j]).point=q→j=k:=fun j hj e=>by
   rcases Nat.lt_trichotomy j k with h1 | h1 | h1
   ·have:=ag0 hrise hj hk h1;omega
   ·exact h1
   ·have:=ag0 hrise hk hj h1;omega
  by_cases hyq:y=q
  ·exact .inl (by simp[hyq])
  ·have hy':y=p∨ ∃j,∃h:j<l.length,mt[j]? =some true∧(l[j]).point=y:=by
    rcases hy with h1 | ⟨j,hj,h1,h2⟩
    ·exact .inl h1
    ·refine .inr ⟨j,hj,?_,h2⟩
     have hjk:k≠j:=fun e=>by subst e;exact hyq (h2.symm.trans hkq)
     rwa [List.getElem?_set_ne hjk] at h1
   rcases h.done y hy' with h1 | h1
   ·exact .inl (by simp[h1])
   ·refine .inr fun z hz=> ?_
    rcases h1 z hz with ⟨h2,h3⟩ | ⟨h2,h3⟩
    ·rcases List.mem_cons.1 h2 with rfl | h4
     ·refine .inr ⟨hq,fun j hj e=> ?_⟩
      have:=uniq j hj e
      subst this
      rw[List.getElem?_set_self (by rw[h.len];exact hk)]
     ·exact .inl ⟨h4,h3⟩
    ·exact .inr ⟨h2,fun j hj e=>up j (h3 j hj e)⟩
theorem azh {l:List PM}{p:Int}(h:aal l p≠ []): ∃k,∃h:k<l.length,(l[k]).point=p:=by
 unfold aal at h
 cases hp:a2w l p with
 | none=>rw[hp] at h;simp at h
 | some m=>
  obtain⟨k,hk,e⟩:=List.mem_iff_getElem.1 (List.mem_of_find?_eq_some hp)
  exact⟨k,hk,by rw[e];simpa using List.find?_some hp⟩
theorem BF.none {l:List PM}{p x:Int}{mt:List Bool}(h:BF l p [] mt x []): ¬Lead (aal l) p p:=by
 have step: ∀y,(y=p∨ ∃k,∃h:k<l.length,mt[k]? =some true∧(l[k]).point=y)→ ∀q∈aal l y,q≠p∧ ∀k,∀h:k<l.length,(l[k]).point=q→mt[k]? =some true:=fun y hy q hq=>by
  rcases h.done y hy with h1 | h1
  ·simp at h1
  ·rcases h1 q hq with ⟨h2,_⟩ | h2
   ·simp at h2
   ·exact h2
 have key: ∀ {y z:Int},Lead (aal l) y z→(y=p∨ ∃k,∃h:k<l.length,mt[k]? =some true∧(l[k]).point=y)→z≠p:=by
  intro y z hl
  induction hl with
  | one hq=>intro hy;exact(step _ hy _ hq).1
  | more hq hl2 ih=>
   intro hy
   obtain⟨_,h2⟩:=step _ hy _ hq
   obtain⟨k,hk,e⟩:=azh (az6 hl2)
   exact ih (.inr ⟨k,hk,h2 k hk e,e⟩)
 exact fun hl=>key hl (.inl rfl) rfl
structure TR (w:World)(base g o c:Nat)(zs:List Int):Prop where
 ge:base≤g
 le:zs.length≤c
 blk: ∃cur,w.heap[g]? =some (.cells cur 3 (0,0))∧o+c≤cur.size∧ ∀j,j<zs.length→cur[o+j]? =some (.int .i64 (zs[j]?.getD 0))
theorem TR.alloc {w:World}{base g o c:Nat}{zs:List Int}(h:TR w base g o c zs)(ob:Obj):TR (w.alloc ob) base g o c zs:=by
 obtain⟨cur,h1,h2⟩:=h.blk
 exact⟨h.ge,h.le,cur,(Below.heap_alloc w ob g (Array.getElem?_eq_some_iff.1 h1).1).trans h1,h2⟩
theorem TR.keep {w w':World}{base g o c:Nat}{zs:List Int}(h:TR w base g o c zs)(hg:w'.heap[g]? =w.heap[g]?):TR w' base g o c zs:=by
 obtain⟨cur,h1,h2⟩:=h.blk
 exact⟨h.ge,h.le,cur,hg.trans h1,h2⟩
theorem TR.tail {w:World}{base g o c:Nat}{z:Int}{zs:List Int}(h:TR w base g o c (z::zs))(_:c≠1):TR w base g (o+1) (c-1) zs:=by
 obtain⟨cur,h1,h2,h3⟩:=h.blk
 have hle:=h.le
 simp only[List.length_cons] at hle
 refine⟨h.ge,by omega,cur,h1,by omega,fun j hj=> ?_⟩
 have:=h3 (j+1) (by simp;omega)
 rw[show o+1+j=o+(j+1) by omega,this]
 simp
theorem TR.tail1 {w:World}{base g o:Nat}{z:Int}{zs:List Int}(h:TR w base g o 1 (z::zs)):zs=[]∧TR w base g o 0 []:=by
 obtain⟨cur,h1,h2,h3⟩:=h.blk
 have hle:=h.le
 simp only[List.length_cons] at hle
 exact⟨List.eq_nil_of_length_eq_zero (by omega),h.ge,by simp,cur,h1,by omega,fun j hj=>by simp at hj⟩
theorem TR.head {w:World}{base g o c:Nat}{z:Int}{zs:List Int}(h:TR w base g o c (z::zs)):w.cell? ⟨g,o,none⟩=some (.int .i64 z):=by
 obtain⟨cur,h1,_,h3⟩:=h.blk
 have:=h3 0 (by simp)
 simp only[World.cell?,h1]
 simpa using this
theorem aim {w:World}{ops:Array Oper}{rest:List Oper}{o:Oper}{a:Act}{Q:Exit→Act→World→Prop}(hgd:o.guard=none)(s x:Operand)
  (ho:o.op=.call {callee:=.builtin .append,args:= #[s,x],argTypes:= #[46,46]})
  (base g off c:Nat) (zs:List Int) (hs:a.eval s=.slice (some ⟨g,off,none⟩) zs.length c) (ht:TR w base g off c zs) (q:Int) (hx:a.eval x=.slice (some ⟨w.heap.size,0,none⟩) 1 1)
  (hlen:zs.length≤1099511627776) (hbase:base≤w.heap.size)
  (h: ∀g' o' c' w',TR w' base g' o' c' (zs++[q])→(w.alloc (.cells #[.int .i64 q] 3)).grownBy w' (some g)→wpList Tryz.prog ops Q rest (a.put o.dst (.slice (some ⟨g',o',none⟩) (zs.length+1) c')) w'):
  wpList Tryz.prog ops Q (o::rest) a (w.alloc (.cells #[.int .i64 q] 3)):=by
 obtain⟨i,hi,hz,hsz,hby⟩:=info_parts at1
 have hb:=Blk.new w 3 #[.int .i64 q]
 have ht1:=ht.alloc (.cells #[.int .i64 q] 3)
 obtain⟨cur,k1,k2,k3⟩:=ht1.blk
 have hblk:Blk (w.alloc (.cells #[.int .i64 q] 3)) g 3 cur:=k1
 refine wpList_append_arg (P:=Tryz.prog) (w.alloc (.cells #[.int .i64 q] 3)) hgd s x 46 ho 3 i (.int .i64 0) 1 8 Tryz.underlying46 hi hz hsz hby rfl (by decide) g off zs.length c (zs.map (Value.int .i64)) hs (by simp) ?_ ⟨w.heap.size,0,none⟩ 1 1 [.int .i64 q] hx (by rfl) ?_ ?_ ?_ ?_ ?_ ?_ ?_
 ·intro j u hu
  have hj:j<zs.length:=by have:=(List.getElem?_eq_some_iff.1 hu).1;simpa using this
  rw[hblk.cell,k3 j hj,←hu]
  simp[hj]
 ·intro j u hu
  match j,hu with
  | 0,hu=>simp at hu;subst hu;exact hb.cell 0
 ·intro u hu;simp at hu;subst hu;rfl
 ·intro hr j hj
  have:j=0:=by simp at hj;omega
  subst this
  refine⟨?_,hblk.frozen _⟩
  rw[hblk.cell]
  simp
  omega
 ·unfold maxLen;omega
 ·omega
 ·intro hr
  have e:(w.alloc (.cells #[.int .i64 q] 3)).setCells g (off+zs.length*1) [.int .i64 q]=(w.alloc (.cells #[.int .i64 q] 3)).setCell ⟨g,off+zs.length,none⟩ (.int .i64 q):=by
   simp[World.setCells]
  rw[e]
  refine h g off c _ ⟨ht.ge,by simp;omega,cur.setIfInBounds (off+zs.length) (.int .i64 q),hblk.set _ _,by simpa using k2,fun j hj=> ?_⟩ ⟨rfl,rfl,rfl,by simp[World.setCell],fun k hk hne=>Below.heap_setCell _ ⟨g,off+zs.length,none⟩ _ k (fun e=>hne (by rw[e]))⟩
  have hle:=ht.le
  rw[List.length_append] at hj
  simp at hj
  by_cases hjl:j<zs.length
  ·rw[Array.getElem?_setIfInBounds_ne (by omega),k3 j hjl,List.getElem?_append_left hjl]
  ·obtain rfl:j=zs.length:=by omega
   rw[Array.getElem?_setIfInBounds_self_of_lt (by omega)]
   simp
 ·intro hr v' w' h1 h2
  rcases h1.2 with ⟨_,h0⟩ | ⟨g',cap,cur',hv,hbb,hg',hn',hm',hs',ht'⟩
  ·omega
  ·subst hv
   refine h g' 0 cap w' ⟨by simp at hbb;omega,by simpa using hn',cur',hg',by rw[hs'];omega,fun j hj=> ?_⟩ ⟨h2.os,h2.tape,h2.output,h2.size,fun k hk _=>h2.block k hk (by simp)⟩
   rw[List.length_append] at hj
   simp at hj
   have e1:(cur'.toList.take ((zs.length+1)*1))[j]? =(zs.map (Value.int .i64)++[.int .i64 q])[j]?:=by rw[ht']
   rw[List.getElem?_take_of_lt (by omega)] at e1
   rw[Nat.zero_add,←Array.getElem?_toList,e1]
   by_cases hjl:j<zs.length
   ·rw[List.getElem?_append_left (by simpa using hjl),List.getElem?_append_left hjl]
    simp[hjl]
   ·obtain rfl:j=zs.length:=by omega
    simp
theorem azf: ∀ {a b:List PM},a.Perm b→(a.map PM.point).Pairwise (· < ·)→(b.map PM.point).Pairwise (· < ·)→a=b:=by
 intro a b hp ha hb
 rw[List.pairwise_map] at ha hb
 exact hp.eq_of_pairwise (fun x y _ _ h1 h2=>by exact absurd h1 (by omega)) ha hb
theorem a2r {l:List PM}(h:(l.map PM.point).Pairwise (· < ·)){m:PM}{k:Nat}(hk:PlaceAt l m.point k)(hno: ∀i (h:i<l.length),(l[i]).point≠m.point):((l.take k++[m]++l.drop k).map PM.point).Pairwise (· < ·):=by
 rw[List.pairwise_map] at h⊢
 have h1:=h.sublist (List.take_sublist k l)
 have h2:=h.sublist (List.drop_sublist k l)
 have lo: ∀x∈l.take k,x.point<m.point:=fun x hx=>by
  obtain⟨i,hi,e⟩:=List.mem_iff_getElem.1 hx
  rw[List.length_take] at hi
  rw[List.getElem_take] at e
  rw[←e]
  exact hk.lo i (by omega) (by omega)
 have hi': ∀x∈l.drop k,m.point<x.point:=fun x hx=>by
  obtain⟨i,hi,e⟩:=List.mem_iff_getElem.1 hx
  rw[List.length_drop] at hi
  rw[List.getElem_drop] at e
  rw[←e]
  have g1:=hk.hi (k+i) (by omega) (by omega)
  have g2:=hno (k+i) (by omega)
  omega
 rw[List.append_assoc,List.pairwise_append]
 refine⟨h1,?_,?_⟩
 ·rw[List.singleton_append,List.pairwise_cons]
  exact⟨hi',h2⟩
 ·intro x hx y hy
  have g1:=lo x hx
  rcases List.mem_append.1 hy with hy | hy
  ·simp at hy;subst hy;exact g1
  ·have:=hi' y hy;omega
theorem aw2 {L:List Mk}(hnd:(L.map Mk.point).Nodup){m:Mk}(hm:m.point∉L.map Mk.point){k:Nat}(hk:PlaceAt (aag L) m.point k):aag (L++[m])=(aag L).take k++[aks m]++(aag L).drop k:=by
 have hnd':((L++[m]).map Mk.point).Nodup:=by
  rw[List.map_append,List.nodup_append]
  refine⟨hnd,by simp,?_⟩
  intro a ha b hb
  simp at hb
  subst hb
  exact fun e=>hm (e▸ha)
 have hp:=ae3 hnd
 have hno: ∀i (h:i<(aag L).length),((aag L)[i]).point≠m.point:=fun i h e=>by
  have h1:(aag L)[i]∈L.map aks:=hp.mem_iff.1 (List.getElem_mem h)
  obtain⟨x,hx,e1⟩:=List.mem_map.1 h1
  refine hm (List.mem_map.2 ⟨x,hx,?_⟩)
  rw[←e,←e1]
  try rfl
 refine azf ?_ (acl hnd') (a2r (acl hnd) (m:=aks m) hk hno)
 refine(ae3 hnd').trans ?_
 rw[List.map_append]
 refine(hp.symm.append_right _).trans ?_
 conv=>lhs;rw[←List.take_append_drop k (aag L)]
 rw[List.append_assoc,List.append_assoc]
 exact List.Perm.append_left _ List.perm_append_comm
theorem an2 {α:Type}{p:α→Bool}{a b:List α}{m:α}(ha: ∀x∈a,p x=false)(hm:p m=true):(a++m::b).find? p=some m:=by
 rw[List.find?_append,List.find?_eq_none.2 (fun x hx=>by simp[ha x hx])]
 simp[hm]
theorem azx {t:List UInt8}{L a b:List Mk}{m:Mk}(hlen:t.length≤65536)(hl:aar (aa3 10 t) 0 []=.ok L)(hL:L=a++m::b)(ha: ∀x∈a,¬Lead (aab L) x.point x.point)(hm:Lead (aab L) m.point m.point):aaw t=.error (42,m.line):=by
 obtain⟨S,hS,hI,hmet⟩:=aer (abc hlen hl).2.2.2.2
 unfold aaw
 rw[if_neg (by omega),hl]
 simp only[hS]
 have hf:L.find? (fun m=>decide (S.loops m.point>0))=some m:=by
  rw[hL]
  refine an2 (fun x hx=> ?_) ?_
  ·rcases(hI.loop x.point).2 with h | h
   ·exact absurd ((hI.loop x.point).1.1 h).2 (ha x hx)
   ·simp;omega
  ·have h1:=hmet m.point (List.mem_map.2 ⟨m,by rw[hL];simp,rfl⟩)
   have ho:m.point∈S.ord:=by
    rcases hI.met_range m.point with h | ⟨h,_⟩ | ⟨h,_⟩
    ·exact absurd h h1
    ·rw[hI.shut] at h;simp at h
    ·exact h
   rw[(hI.loop m.point).1.2 ⟨ho,hm⟩]
   simp
 rw[hf]
theorem endsG_len {G:Int→List Int}{k:Nat}{p:Int}:18<(agw G k p).length↔18<(wh G k p).length:=by
 unfold agw
 by_cases h:G p=[]
 ·rw[if_pos h,ah2 h]
  simp
 ·rw[if_neg h,List.length_take]
  omega
theorem az0 {t:List UInt8}{L:List Mk}(hlen:t.length≤65536)(hl:aar (aa3 10 t) 0 []=.ok L)(hno: ∀m∈L,¬Lead (aab L) m.point m.point):
  ∃k,(∀p,Dep (aab L) k p)∧(∀a m b,L=a++m::b→(∀x∈a,(wh (aab L) k x.point).length≤18)→18<(wh (aab L) k m.point).length→aaw t=.error (43,m.line))∧
   ((∀m∈L,(wh (aab L) k m.point).length≤18)→ ∃E,aaw t=.ok (L,E)∧ ∀p,E p=agw (aab L) k p):=by
 obtain⟨S,hS,hI,hmet⟩:=aer (abc hlen hl).2.2.2.2
 obtain⟨ht,he⟩:=apo hI hmet hno
 have he':=he (S.ord.length+1) (Nat.le_refl _)
 have h1:L.find? (fun m=>decide (S.loops m.point>0))=none:=by
  rw[List.find?_eq_none]
  intro m hm hgt
  have hgt':S.loops m.point>0:=by simpa using hgt
  rcases(hI.loop m.point).2 with h | h
  ·exact hno m hm ((hI.loop m.point).1.1 h).2
  ·omega
 refine⟨S.ord.length+1,fun p=> ?_,fun a m b hL ha hm=> ?_,fun hs=>⟨ad9 (ade L) (aab L) S.ord (fun _=>[]),?_,he'⟩⟩
 ·by_cases hG:aab L p=[]
  ·exact Dep.leaf hG _
  ·obtain⟨m,hm,e⟩:=ac2 hG
   have hp:p∈S.ord:=by
    have h1:=hmet p (List.mem_map.2 ⟨m,hm,e⟩)
    rcases hI.met_range p with h | ⟨h,_⟩ | ⟨h,_⟩
    ·exact absurd h h1
    ·rw[hI.shut] at h;simp at h
    ·exact h
   obtain⟨pre,post,hs⟩:=List.append_of_mem hp
   exact Dep.of_topo ht (S.ord.length+1) pre p post (by rw[hs];simp;omega) hs
 ·unfold aaw
  rw[if_neg (by omega),hl]
  simp only[hS]
  rw[h1]
  have h2:L.find? (fun m=>decide (18<(ad9 (ade L) (aab L) S.ord (fun _=>[]) m.point).length))=some m:=by
   conv=>lhs;arg 2;rw[hL]
   refine an2 (fun x hx=> ?_) ?_
   ·rw[he']
    have:=ha x hx
    exact decide_eq_false (fun h=>by have:=endsG_len.1 h;omega)
   ·rw[he']
    exact decide_eq_true (endsG_len.2 hm)
  simp only[h2]
 ·unfold aaw
  rw[if_neg (by omega),hl]
  simp only[hS]
  rw[h1]
  have h2:L.find? (fun m=>decide (18<(ad9 (ade L) (aab L) S.ord (fun _=>[]) m.point).length))=none:=by
   rw[List.find?_eq_none]
   intro m hm hgt
   rw[he'] at hgt
   have:=endsG_len.1 (of_decide_eq_true hgt)
   have:=hs m hm
   omega
  simp only[h2]
end Go.Proofs.YtfhpgmlfgjfknaaGreatDoor
