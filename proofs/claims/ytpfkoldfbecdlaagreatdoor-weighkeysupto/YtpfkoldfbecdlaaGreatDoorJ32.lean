/- Contracts and lemmas (nothing is claimed here). -/
import Derived.Test.YtpfkoldfbecdlaaGreatDoorJ31
import Derived.Test.YtpfkoldfbecdlaaGreatDoorJ28
import Derived.Test.YtpfkoldfbecdlaaGreatDoorJ23
import Derived.Test.YtpfkoldfbecdlaaGreatDoorJ7
import Derived.Test.YtpfkoldfbecdlaaGreatDoorJ13
import Derived.Test.YtpfkoldfbecdlaaGreatDoorJ8
namespace Go.Proofs.YtpfkoldfbecdlaaGreatDoor
open Go.RowKit Go.Vf Go.Maps
structure Sl (n₀:Nat)(W:World)(b off cap:Nat)(zs:List Int):Prop where
 lt:b<n₀
 cap:zs.length≤cap
 cells: ∀j,j<zs.length→W.cell? ⟨b,off+j,none⟩=some (.int .i64 (zs[j]?.getD 0))
 ty: ∃cs f,W.heap[b]? =some (.cells cs 3 f)
section
variable {n₀:Nat}{W W':World}{b off cap:Nat}{zs:List Int}
theorem Sl.ints (h:Sl n₀ W b off cap zs):Ints n₀ W (.slice (some ⟨b,off,none⟩) zs.length cap) zs:=.inr ⟨b,off,cap,rfl,h.lt,h.cells⟩
theorem Sl.below {n:Nat}(h:Sl n₀ W b off cap zs)(hb:Below n W W')(hn:n₀≤n):Sl n₀ W' b off cap zs:=
 ⟨h.lt,h.cap,fun j hj=>(hb.cell (p:=⟨b,off+j,none⟩) (show b<n by have:=h.lt;omega)).trans (h.cells j hj),by obtain⟨cs,f,e⟩:=h.ty;exact⟨cs,f,(hb.block b (by have:=h.lt;omega)).trans e⟩⟩
theorem Sl.mono {n:Nat}(h:Sl n₀ W b off cap zs)(hn:n₀≤n):Sl n W b off cap zs:=⟨Nat.lt_of_lt_of_le h.lt hn,h.cap,h.cells,h.ty⟩
theorem Sl.take (h:Sl n₀ W b off cap zs){m:Nat}(hm:m≤zs.length):Sl n₀ W b off cap (zs.take m):=
 ⟨h.lt,by have:=h.cap;rw[List.length_take];omega,fun j hj=>by
  rw[List.length_take] at hj
  rw[h.cells j (by omega),List.getElem?_take_of_lt (by omega)],h.ty⟩
theorem Sl.drop (h:Sl n₀ W b off cap zs){m o2:Nat}(hm:m≤zs.length)(ho:m<zs.length→o2=off+m):Sl n₀ W b o2 (cap-m) (zs.drop m):=
 ⟨h.lt,by have:=h.cap;rw[List.length_drop];omega,fun j hj=>by
  rw[List.length_drop] at hj
  rw[ho (by omega),List.getElem?_drop,←h.cells (m+j) (by omega)]
  congr 2
  omega,h.ty⟩
theorem IOwn.sl {base:Nat}{v:Value}(h:IOwn W base v zs)(hne:zs≠ []): ∃b cap,v=.slice (some ⟨b,0,none⟩) zs.length cap∧base≤b∧Sl W.heap.size W b 0 cap zs:=by
 rcases h.form with ⟨_,e⟩ | ⟨g,cap,e,hb,hlt,hc,hcell,_⟩
 ·exact absurd e hne
 ·exact⟨g,cap,e,hb,hlt,hc,fun j hj=>by rw[Nat.zero_add];exact hcell j hj,(aah h (j:=g) (by rw[e];rfl)).2⟩
end
set_option maxHeartbeats 4000000 in
set_option maxRecDepth 20000 in
theorem row_any (va vb:Value)(xs ys:List Int)(n₁ n₂:Nat)(w:World)(ha:Ints n₁ w va xs)(hb:Ints n₂ w vb ys)(h2:n₂≤w.heap.size)(hl:xs.length+ys.length≤1099511627776):
  Calls Tryz.prog 209 #[va,vb] w fun e w'=> ∃v,e=.returned v∧IOwn w' w.heap.size v (xs++ys)∧Below w.heap.size w w':=by
 obtain⟨aa,ca,rfl⟩:=ints_val ha
 obtain⟨ab,cb,rfl⟩:=ints_val hb
 have HO0:Hid (IOwn w w.heap.size (.slice none 0 0) []):=IOwn.nil _ _
 have HA:Hid (Ints n₁ w (.slice aa xs.length ca) xs):=ha
 have HB:Hid (Ints n₂ w (.slice ab ys.length cb) ys):=hb
 clear ha hb
 go_enter Tryz.func209,Tryz.ntmps209
 go_upto_region 3 with (first | (at_builtin;refine abl rfl _ _ rfl w.heap.size _ [] rfl HO0.out xs _ _ rfl HA.out (by simp;omega) (Nat.le_refl _) ?_;intro a6 c6 w6 hown6 hb6 _ _))
 have hsz6:w.heap.size≤w6.heap.size:=hb6.size
 have HO6:Hid (IOwn w6 w.heap.size (.slice a6 xs.length c6) xs):=by show IOwn _ _ _ _;simpa using hown6
 have HIB:Hid (Ints n₂ w6 (.slice ab ys.length cb) ys):=HB.out.below hb6 h2
 have HB6:Hid (Below w.heap.size w w6):=hb6
 clear hown6 hb6
 go_wp2_with (first | (at_builtin;refine abl rfl _ _ rfl w.heap.size _ xs rfl HO6.out ys _ _ rfl HIB.out (by omega) hsz6 ?_;intro a7 c7 w7 hown7 hb7 _ _))
 have HO7:Hid (IOwn w7 w.heap.size (.slice a7 (xs.length+ys.length) c7) (xs++ys)):=hown7
 have HB7:Hid (Below w.heap.size w w7):=HB6.out.trans hb7
 clear hown7 hb7
 go_ret
 exact⟨_,rfl,HO7.out,HB7.out⟩
structure RT (n₀:Nat)(W:World)(v:Value)(l:List Ent):Prop where
 rise:RiseE l
 few:l.length≤1048576
 short: ∀e∈l,e.1.length≤4194304
 ok: ∀e∈l,e.2.length≤16
 inn:NIn n₀ W v l
theorem RT.below {n₀ n:Nat}{W W':World}{v:Value}{l:List Ent}(h:RT n₀ W v l)(hb:Below n W W')(hn:n₀≤n):RT n₀ W' v l:=⟨h.rise,h.few,h.short,h.ok,h.inn.below hb hn⟩
theorem RT.mono {n₀ n:Nat}{W:World}{v:Value}{l:List Ent}(h:RT n₀ W v l)(hn:n₀≤n):RT n W v l:=⟨h.rise,h.few,h.short,h.ok,h.inn.mono hn⟩
theorem rfind_any {l:List Ent}{n₀ n₁:Nat}{v pv:Value}{p:List Int}{w:World}(h:RT n₀ w v l)(h01:n₀≤n₁)(hn₁:n₁≤w.heap.size)(hp:Ints n₁ w pv p)(hpl:p.length≤4194304):
  Calls Tryz.prog 211 #[.agg #[v],pv] w fun e w'=> ∃u,e=.returned (.tuple #[u,.bool (aaw l p)])∧Els n₀ w' u ((acm l p).getD [])∧Below w.heap.size w w':=by
 refine(refFindE_any l h.rise h.few h.short v pv p hpl n₀ n₁ h01 w hn₁ h.inn hp).mono ?_
 rintro e w' ⟨hb,hr⟩
 unfold aaw
 revert hr
 cases acm l p with
 | none=>rintro rfl;exact⟨_,rfl,.inl ⟨none,0,rfl,rfl⟩,hb⟩
 | some x=>rintro⟨u,rfl,hu⟩;exact⟨u,rfl,hu,hb⟩
set_option maxHeartbeats 4000000 in
set_option maxRecDepth 20000 in
theorem first_any {l:List Ent}{n₀:Nat}{v:Value}{b off cap:Nat}{zs:List Int}{w:World}(h:RT n₀ w v l)(hn₀:n₀≤w.heap.size)(hs:Sl n₀ w b off cap zs)(hz:zs.length≤4000000):
  Calls Tryz.prog 208 #[.agg #[v],.slice (some ⟨b,off,none⟩) zs.length cap] w fun e w'=>e=.returned (.int .i64 (ad7 (aaw l) zs:Int))∧Below w.heap.size w w':=by
 obtain⟨va,vc,rfl⟩:=h.inn.val
 have hb0:=(Below.refl w.heap.size w).alloc (Nat.le_refl _) (.cells #[.slice va l.length vc] 31)
 have hbn:=Blk.new w 31 #[.slice va l.length vc]
 obtain⟨M,hM⟩: ∃M,M=min 8 zs.length:=⟨_,rfl⟩
 have hmin:min (8:Int) (zs.length:Int)=(M:Int):=by omega
 have hMl:M≤8∧M≤zs.length∧zs.length≤cap:=⟨by omega,by omega,hs.cap⟩
 have HH:Hid (abe (aaw l) zs M=ad7 (aaw l) zs):=by rw[hM];exact rfl
 have HS:Hid (Sl n₀ w b off cap zs):=hs
 have HT:Hid (RT n₀ w (.slice va l.length vc) l):=h
 clear h hs hM
 obtain⟨R,hR⟩: ∃R,R=ad7 (aaw l) zs:=⟨_,rfl⟩
 rw[←hR] at HH⊢
 clear hR
 obtain⟨zn,hzn⟩: ∃zn,zs.length=zn:=⟨_,rfl⟩
 have HZN:Hid (zs.length=zn):=hzn
 rw[hzn] at hmin hMl⊢
 clear hz hzn
 go_enter Tryz.func208,Tryz.ntmps208
 go_upto_region 1 with fail
 generalize w.alloc (.cells #[.slice va l.length vc] 31)=W at hb0 hbn⊢
 have c0:W.cell? ⟨w.heap.size,0,none⟩=some (.slice va l.length vc):=hbn.cell 0
 go_wp2_with fail
 go_loopw [5] (fun nv wr=> ∃k:Nat,k≤M∧nv=.int .i64 k∧Hid (abe (aaw l) zs k=R)∧Hid (Below W.heap.size W wr)) (fun nv _=>(intOf nv).toNat)
 case atStart=>exact⟨M,Nat.le_refl _,rfl,HH,Below.refl _ _⟩
 case round=>
  clear HH
  obtain⟨k,hk1,rfl,HF,HBR⟩:=hrel
  have r0:wr.cell? ⟨w.heap.size,0,none⟩=some (.slice va l.length vc):=(HBR.out.cell (p:=⟨w.heap.size,0,none⟩) hbn.lt).trans c0
  have HBW:Hid (Below w.heap.size w wr):=hb0.trans (HBR.out.mono hb0.size)
  cases k with
  | zero=>
   obtain rfl:R=0:=HF.out.symm
   clear HF
   go_wp2_with fail
   go_ret
   exact⟨rfl,HBW.out⟩
  | succ k=>
   have htk:(zs.take (k+1)).length=k+1:=by rw[List.length_take,HZN.out];omega
   have HFD:Hid (∀n,Calls Tryz.prog 211 #[.agg #[.slice va l.length vc],.slice (some ⟨b,off,none⟩) (k+1) cap] (wr.drewN n) fun e w'=> ∃u,e=.returned (.tuple #[u,.bool (aaw l (zs.take (k+1)))])∧Below (wr.drewN n).heap.size (wr.drewN n) w'):=fun n=>by
    have hbq:=HBW.out.trans ((abv wr n).mono HBW.out.size)
    have hi:=((HS.out.take (m:=k+1) (by rw[HZN.out];omega)).below hbq hn₀).ints
    rw[htk] at hi
    refine(rfind_any (HT.out.below hbq hn₀) (Nat.le_refl _) (Nat.le_trans hn₀ hbq.size) hi (by omega)).mono ?_
    rintro e w' ⟨u,q1,_,q2⟩
    exact⟨u,q1,q2⟩
   have hfd1:=HFD.out 1
   have HFS:Hid (abe (aaw l) zs (k+1)=if aaw l (zs.take (k+1))=true then k+1 else abe (aaw l) zs k):=rfl
   generalize aaw l (zs.take (k+1))=fb at HFD hfd1 HFS
   have h1:wr.drewN 1=wr.drew:=rfl
   rw[h1] at hfd1
   clear htk
   go_upto_region 4 with fail
   go_cut [7] from 15 to 24 (fun v wx=>v=.bool fb∧Hid (Below wr.heap.size wr wx))
   case first=>
    go_region_with (first | (go_at_call 211;with_reducible refine hfd1.mono ?_;rintro e w2 ⟨u,rfl,hb2⟩))
    all_goals
     go_wp2_with fail
     go_meet
     exact⟨rfl,(Below.refl _ wr).drew.trans hb2⟩
   case rest=>
    obtain⟨rfl,HB⟩:=hcut
    have HBC:Hid (Below w.heap.size w wc):=HBW.out.trans (HB.out.mono HBW.out.size)
    have HBC2:Hid (Below W.heap.size W wc):=HBR.out.trans (HB.out.mono HBR.out.size)
    clear HFD hfd1 HB HBR HBW r0
    cases fb with
    | true=>
     obtain rfl:R=k+1:=by rw[←HF.out,HFS.out,if_pos rfl]
     clear HF HFS
     go_wp2_with fail
     go_ret
     exact⟨by simp,HBC.out⟩
    | false=>
     have HF2:Hid (abe (aaw l) zs k=R):=by
      show _=_
      rw[←HF.out,HFS.out]
      rfl
     clear HF HFS
     go_wp2_with fail
     go_roundw
     case rel=>exact⟨k,by omega,by simp,HF2,HBC2⟩
     case measure=>simp only[intOf];omega
theorem rIsPoint_any (n:Int)(w:World):Calls Tryz.prog 106 #[.int .i64 n] w fun e w'=>e=.returned (.bool (acf n))∧w=w':=by
 by_cases h1:0≤n
 ·by_cases h2:n≤1114111
  ·by_cases h3:n<55296
   ·go_enter Tryz.func106,Tryz.ntmps106
    go_wp2
    go_ret
    exact⟨by simp[acf,h1,h2,h3],rfl⟩
   ·by_cases h4:57343<n
    ·go_enter Tryz.func106,Tryz.ntmps106
     go_wp2
     go_ret
     exact⟨by simp[acf,h1,h2,h4],rfl⟩
    ·go_enter Tryz.func106,Tryz.ntmps106
     go_wp2
     go_ret
     exact⟨by simp[acf];omega,rfl⟩
  ·go_enter Tryz.func106,Tryz.ntmps106
   go_wp2
   go_ret
   exact⟨by simp[acf];omega,rfl⟩
 ·go_enter Tryz.func106,Tryz.ntmps106
  go_wp2
  go_ret
  exact⟨by simp[acf];omega,rfl⟩
set_option maxHeartbeats 4000000 in
set_option maxRecDepth 20000 in
theorem rImplied_any (n:Int)(w:World):Calls Tryz.prog 210 #[.int .i64 n] w fun e w'=> ∃v,e=.returned v∧EOwn w' w.heap.size v (impR n)∧Below w.heap.size w w':=by
 cases hp:acf n with
 | false=>
  have hR:impR n=[]:=by unfold impR;rw[hp];rfl
  rw[hR]
  have h1:=fun w=>rIsPoint_any n w
  rw[hp] at h1
  clear hR hp
  go_enter Tryz.func210,Tryz.ntmps210
  go_wp2_with fail
  refine(h1 _).mono ?_
  rintro _ w1 ⟨rfl,rfl⟩
  go_wp2
  go_ret
  exact⟨_,rfl,EOwn.nil _ _,Below.refl _ _⟩
 | true=>
  have h1:=fun w=>rIsPoint_any n w
  rw[hp] at h1
  have hn:0≤n∧n≤1114111:=by
   obtain⟨u,rfl,hu⟩:=ad0 hp
   omega
  have hR:impR n=[⟨false,af9 n+n/32768,32,2⟩,⟨false,32768+n % 32768,0,0⟩]:=by unfold impR;rw[hp];rfl
  have hbi:=base_in n
  have hb:af9 n=if (19968≤n∧n≤40959)∨(63744≤n∧n≤64255) then 64320 else if (13312≤n∧n≤19903)∨(131072≤n∧n≤262143) then 64384 else 64448:=rfl
  have td:Int.tdiv n 32768=n/32768:=Int.tdiv_eq_ediv_of_nonneg hn.1
  have tm:Int.tmod n 32768=n % 32768:=Int.tmod_eq_emod_of_nonneg hn.1
  have hq:(0:Int)≤n/32768∧n/32768≤34:=by omega
  have hm:(0:Int)≤n % 32768∧n % 32768<32768:=by omega
  generalize n/32768=qq at hR td hq
  generalize n % 32768=rr at hR tm hm
  generalize impR n=R at hR⊢
  generalize af9 n=B at hbi hb hR
  have HR:Hid (R=[⟨false,B+qq,32,2⟩,⟨false,32768+rr,0,0⟩]):=hR
  have HB:Hid (B=if (19968≤n∧n≤40959)∨(63744≤n∧n≤64255) then 64320 else if (13312≤n∧n≤19903)∨(131072≤n∧n≤262143) then 64384 else 64448):=hb
  clear hp hR hb
  have hseg:(0≤n∧n≤13311)∨(13312≤n∧n≤19903)∨(19904≤n∧n≤19967)∨(19968≤n∧n≤40959)∨(40960≤n∧n≤63743)∨(63744≤n∧n≤64255)∨(64256≤n∧n≤131071)∨(131072≤n∧n≤262143)∨(262144≤n∧n≤1114111):=by omega
  rcases hseg with hs | hs | hs | hs | hs | hs | hs | hs | hs
  ·have hBv:B=64448:=by rw[HB.out,if_neg (by omega),if_neg (by omega)]
   subst hBv
   have f0: ¬13312≤n:=by omega
   have f1: ¬131072≤n:=by omega
   have f2: ¬19968≤n:=by omega
   have f3: ¬63744≤n:=by omega
   have f4:n≤19903:=by omega
   have f5:n≤262143:=by omega
   have f6:n≤40959:=by omega
   have f7:n≤64255:=by omega
   clear hs HB hbi
   go_enter Tryz.func210,Tryz.ntmps210
   go_wp2_with fail
   refine(h1 _).mono ?_
   rintro _ w1 ⟨rfl,rfl⟩
   go_upto_region 10 with (first | (at_builtin;refine aak rfl _ _ rfl w.heap.size _ [] rfl (EOwn.nil _ _) false (64448+qq) 32 2 rfl (by simp) (Nat.le_refl _) ?_;intro a1 c1 w2 hown1 hgr1))
   have hb1:=((Below.refl w.heap.size w).alloc (Nat.le_refl _) (.cells #[.bool false,.int .i64 (64448+qq),.int .i64 32,.int .i64 2] 133))
   have hb2:Below w.heap.size w w2:=hb1.grown hgr1 (by simp) (fun j hj=>by cases hj)
   have hb3:=hb2.alloc hb2.size (.cells #[.bool false,.int .i64 (32768+rr),.int .i64 0,.int .i64 0] 133)
   have hown1':EOwn w2 w.heap.size (.slice a1 1 c1) [⟨false,64448+qq,32,2⟩]:=hown1
   go_wp2_with (first | (at_builtin;refine aak rfl _ _ rfl w.heap.size _ [⟨false,64448+qq,32,2⟩] rfl hown1' false (32768+rr) 0 0 rfl (by simp) hb2.size ?_;intro a2 c2 w3 hown2 hgr2))
   have hb4:Below w.heap.size w w3:=hb3.grown hgr2 (Nat.le_trans hb2.size (by simp)) (fun j hj=>(aah hown1' hj).1)
   go_wp2
   go_ret
   refine⟨_,rfl,?_,hb4⟩
   rw[HR.out]
   exact hown2
  ·have hBv:B=64384:=by rw[HB.out,if_neg (by omega),if_pos (by omega)]
   subst hBv
   have f0:13312≤n:=by omega
   have f1: ¬131072≤n:=by omega
   have f2: ¬19968≤n:=by omega
   have f3: ¬63744≤n:=by omega
   have f4:n≤19903:=by omega
   have f5:n≤262143:=by omega
   have f6:n≤40959:=by omega
   have f7:n≤64255:=by omega
   clear hs HB hbi
   go_enter Tryz.func210,Tryz.ntmps210
   go_wp2_with fail
   refine(h1 _).mono ?_
   rintro _ w1 ⟨rfl,rfl⟩
   go_upto_region 10 with (first | (at_builtin;refine aak rfl _ _ rfl w.heap.size _ [] rfl (EOwn.nil _ _) false (64384+qq) 32 2 rfl (by simp) (Nat.le_refl _) ?_;intro a1 c1 w2 hown1 hgr1))
   have hb1:=((Below.refl w.heap.size w).alloc (Nat.le_refl _) (.cells #[.bool false,.int .i64 (64384+qq),.int .i64 32,.int .i64 2] 133))
   have hb2:Below w.heap.size w w2:=hb1.grown hgr1 (by simp) (fun j hj=>by cases hj)
   have hb3:=hb2.alloc hb2.size (.cells #[.bool false,.int .i64 (32768+rr),.int .i64 0,.int .i64 0] 133)
   have hown1':EOwn w2 w.heap.size (.slice a1 1 c1) [⟨false,64384+qq,32,2⟩]:=hown1
   go_wp2_with (first | (at_builtin;refine aak rfl _ _ rfl w.heap.size _ [⟨false,64384+qq,32,2⟩] rfl hown1' false (32768+rr) 0 0 rfl (by simp) hb2.size ?_;intro a2 c2 w3 hown2 hgr2))
   have hb4:Below w.heap.size w w3:=hb3.grown hgr2 (Nat.le_trans hb2.size (by simp)) (fun j hj=>(aah hown1' hj).1)
   go_wp2
   go_ret
   refine⟨_,rfl,?_,hb4⟩
   rw[HR.out]
   exact hown2
  ·have hBv:B=64448:=by rw[HB.out,if_neg (by omega),if_neg (by omega)]
   subst hBv
   have f0:13312≤n:=by omega
   have f1: ¬131072≤n:=by omega
   have f2: ¬19968≤n:=by omega
   have f3: ¬63744≤n:=by omega
   have f4: ¬n≤19903:=by omega
   have f5:n≤262143:=by omega
   have f6:n≤40959:=by omega
   have f7:n≤64255:=by omega
   clear hs HB hbi
   go_enter Tryz.func210,Tryz.ntmps210
   go_wp2_with fail
   refine(h1 _).mono ?_
   rintro _ w1 ⟨rfl,rfl⟩
   go_upto_region 10 with (first | (at_builtin;refine aak rfl _ _ rfl w.heap.size _ [] rfl (EOwn.nil _ _) false (64448+qq) 32 2 rfl (by simp) (Nat.le_refl _) ?_;intro a1 c1 w2 hown1 hgr1))
   have hb1:=((Below.refl w.heap.size w).alloc (Nat.le_refl _) (.cells #[.bool false,.int .i64 (64448+qq),.int .i64 32,.int .i64 2] 133))
   have hb2:Below w.heap.size w w2:=hb1.grown hgr1 (by simp) (fun j hj=>by cases hj)
   have hb3:=hb2.alloc hb2.size (.cells #[.bool false,.int .i64 (32768+rr),.int .i64 0,.int .i64 0] 133)
   have hown1':EOwn w2 w.heap.size (.slice a1 1 c1) [⟨false,64448+qq,32,2⟩]:=hown1
   go_wp2_with (first | (at_builtin;refine aak rfl _ _ rfl w.heap.size _ [⟨false,64448+qq,32,2⟩] rfl hown1' false (32768+rr) 0 0 rfl (by simp) hb2.size ?_;intro a2 c2 w3 hown2 hgr2))
   have hb4:Below w.heap.size w w3:=hb3.grown hgr2 (Nat.le_trans hb2.size (by simp)) (fun j hj=>(aah hown1' hj).1)
   go_wp2
   go_ret
   refine⟨_,rfl,?_,hb4⟩
   rw[HR.out]
   exact hown2
  ·have hBv:B=64320:=by rw[HB.out,if_pos (by omega)]
   subst hBv
   have f0:13312≤n:=by omega
   have f1: ¬131072≤n:=by omega
   have f2:19968≤n:=by omega
   have f3: ¬63744≤n:=by omega
   have f4: ¬n≤19903:=by omega
   have f5:n≤262143:=by omega
   have f6:n≤40959:=by omega
   have f7:n≤64255:=by omega
   clear hs HB hbi
   go_enter Tryz.func210,Tryz.ntmps210
   go_wp2_with fail
   refine(h1 _).mono ?_
   rintro _ w1 ⟨rfl,rfl⟩
   go_upto_region 10 with (first | (at_builtin;refine aak rfl _ _ rfl w.heap.size _ [] rfl (EOwn.nil _ _) false (64320+qq) 32 2 rfl (by simp) (Nat.le_refl _) ?_;intro a1 c1 w2 hown1 hgr1))
   have hb1:=((Below.refl w.heap.size w).alloc (Nat.le_refl _) (.cells #[.bool false,.int .i64 (64320+qq),.int .i64 32,.int .i64 2] 133))
   have hb2:Below w.heap.size w w2:=hb1.grown hgr1 (by simp) (fun j hj=>by cases hj)
   have hb3:=hb2.alloc hb2.size (.cells #[.bool false,.int .i64 (32768+rr),.int .i64 0,.int .i64 0] 133)
   have hown1':EOwn w2 w.heap.size (.slice a1 1 c1) [⟨false,64320+qq,32,2⟩]:=hown1
   go_wp2_with (first | (at_builtin;refine aak rfl _ _ rfl w.heap.size _ [⟨false,64320+qq,32,2⟩] rfl hown1' false (32768+rr) 0 0 rfl (by simp) hb2.size ?_;intro a2 c2 w3 hown2 hgr2))
   have hb4:Below w.heap.size w w3:=hb3.grown hgr2 (Nat.le_trans hb2.size (by simp)) (fun j hj=>(aah hown1' hj).1)
   go_wp2
   go_ret
   refine⟨_,rfl,?_,hb4⟩
   rw[HR.out]
   exact hown2
  ·have hBv:B=64448:=by rw[HB.out,if_neg (by omega),if_neg (by omega)]
   subst hBv
   have f0:13312≤n:=by omega
   have f1: ¬131072≤n:=by omega
   have f2:19968≤n:=by omega
   have f3: ¬63744≤n:=by omega
   have f4: ¬n≤19903:=by omega
   have f5:n≤262143:=by omega
   have f6: ¬n≤40959:=by omega
   have f7:n≤64255:=by omega
   clear hs HB hbi
   go_enter Tryz.func210,Tryz.ntmps210
   go_wp2_with fail
   refine(h1 _).mono ?_
   rintro _ w1 ⟨rfl,rfl⟩
   go_upto_region 10 with (first | (at_builtin;refine aak rfl _ _ rfl w.heap.size _ [] rfl (EOwn.nil _ _) false (64448+qq) 32 2 rfl (by simp) (Nat.le_refl _) ?_;intro a1 c1 w2 hown1 hgr1))
   have hb1:=((Below.refl w.heap.size w).alloc (Nat.le_refl _) (.cells #[.bool false,.int .i64 (64448+qq),.int .i64 32,.int .i64 2] 133))
   have hb2:Below w.heap.size w w2:=hb1.grown hgr1 (by simp) (fun j hj=>by cases hj)
   have hb3:=hb2.alloc hb2.size (.cells #[.bool false,.int .i64 (32768+rr),.int .i64 0,.int .i64 0] 133)
   have hown1':EOwn w2 w.heap.size (.slice a1 1 c1) [⟨false,64448+qq,32,2⟩]:=hown1
   go_wp2_with (first | (at_builtin;refine aak rfl _ _ rfl w.heap.size _ [⟨false,64448+qq,32,2⟩] rfl hown1' false (32768+rr) 0 0 rfl (by simp) hb2.size ?_;intro a2 c2 w3 hown2 hgr2))
   have hb4:Below w.heap.size w w3:=hb3.grown hgr2 (Nat.le_trans hb2.size (by simp)) (fun j hj=>(aah hown1' hj).1)
   go_wp2
   go_ret
   refine⟨_,rfl,?_,hb4⟩
   rw[HR.out]
   exact hown2
  ·have hBv:B=64320:=by rw[HB.out,if_pos (by omega)]
   subst hBv
   have f0:13312≤n:=by omega
   have f1: ¬131072≤n:=by omega
   have f2:19968≤n:=by omega
   have f3:63744≤n:=by omega
   have f4: ¬n≤19903:=by omega
   have f5:n≤262143:=by omega
   have f6: ¬n≤40959:=by omega
   have f7:n≤64255:=by omega
   clear hs HB hbi
   go_enter Tryz.func210,Tryz.ntmps210
   go_wp2_with fail
   refine(h1 _).mono ?_
   rintro _ w1 ⟨rfl,rfl⟩
   go_upto_region 10 with (first | (at_builtin;refine aak rfl _ _ rfl w.heap.size _ [] rfl (EOwn.nil _ _) false (64320+qq) 32 2 rfl (by simp) (Nat.le_refl _) ?_;intro a1 c1 w2 hown1 hgr1))
   have hb1:=((Below.refl w.heap.size w).alloc (Nat.le_refl _) (.cells #[.bool false,.int .i64 (64320+qq),.int .i64 32,.int .i64 2] 133))
   have hb2:Below w.heap.size w w2:=hb1.grown hgr1 (by simp) (fun j hj=>by cases hj)
   have hb3:=hb2.alloc hb2.size (.cells #[.bool false,.int .i64 (32768+rr),.int .i64 0,.int .i64 0] 133)
   have hown1':EOwn w2 w.heap.size (.slice a1 1 c1) [⟨false,64320+qq,32,2⟩]:=hown1
   go_wp2_with (first | (at_builtin;refine aak rfl _ _ rfl w.heap.size _ [⟨false,64320+qq,32,2⟩] rfl hown1' false (32768+rr) 0 0 rfl (by simp) hb2.size ?_;intro a2 c2 w3 hown2 hgr2))
   have hb4:Below w.heap.size w w3:=hb3.grown hgr2 (Nat.le_trans hb2.size (by simp)) (fun j hj=>(aah hown1' hj).1)
   go_wp2
   go_ret
   refine⟨_,rfl,?_,hb4⟩
   rw[HR.out]
   exact hown2
  ·have hBv:B=64448:=by rw[HB.out,if_neg (by omega),if_neg (by omega)]
   subst hBv
   have f0:13312≤n:=by omega
   have f1: ¬131072≤n:=by omega
   have f2:19968≤n:=by omega
   have f3:63744≤n:=by omega
   have f4: ¬n≤19903:=by omega
   have f5:n≤262143:=by omega
   have f6: ¬n≤40959:=by omega
   have f7: ¬n≤64255:=by omega
   clear hs HB hbi
   go_enter Tryz.func210,Tryz.ntmps210
   go_wp2_with fail
   refine(h1 _).mono ?_
   rintro _ w1 ⟨rfl,rfl⟩
   go_upto_region 10 with (first | (at_builtin;refine aak rfl _ _ rfl w.heap.size _ [] rfl (EOwn.nil _ _) false (64448+qq) 32 2 rfl (by simp) (Nat.le_refl _) ?_;intro a1 c1 w2 hown1 hgr1))
   have hb1:=((Below.refl w.heap.size w).alloc (Nat.le_refl _) (.cells #[.bool false,.int .i64 (64448+qq),.int .i64 32,.int .i64 2] 133))
   have hb2:Below w.heap.size w w2:=hb1.grown hgr1 (by simp) (fun j hj=>by cases hj)
   have hb3:=hb2.alloc hb2.size (.cells #[.bool false,.int .i64 (32768+rr),.int .i64 0,.int .i64 0] 133)
   have hown1':EOwn w2 w.heap.size (.slice a1 1 c1) [⟨false,64448+qq,32,2⟩]:=hown1
   go_wp2_with (first | (at_builtin;refine aak rfl _ _ rfl w.heap.size _ [⟨false,64448+qq,32,2⟩] rfl hown1' false (32768+rr) 0 0 rfl (by simp) hb2.size ?_;intro a2 c2 w3 hown2 hgr2))
   have hb4:Below w.heap.size w w3:=hb3.grown hgr2 (Nat.le_trans hb2.size (by simp)) (fun j hj=>(aah hown1' hj).1)
   go_wp2
   go_ret
   refine⟨_,rfl,?_,hb4⟩
   rw[HR.out]
   exact hown2
  ·have hBv:B=64384:=by rw[HB.out,if_neg (by omega),if_pos (by omega)]
   subst hBv
   have f0:13312≤n:=by omega
   have f1:131072≤n:=by omega
   have f2:19968≤n:=by omega
   have f3:63744≤n:=by omega
   have f4: ¬n≤19903:=by omega
   have f5:n≤262143:=by omega
   have f6: ¬n≤40959:=by omega
   have f7: ¬n≤64255:=by omega
   clear hs HB hbi
   go_enter Tryz.func210,Tryz.ntmps210
   go_wp2_with fail
   refine(h1 _).mono ?_
   rintro _ w1 ⟨rfl,rfl⟩
   go_upto_region 10 with (first | (at_builtin;refine aak rfl _ _ rfl w.heap.size _ [] rfl (EOwn.nil _ _) false (64384+qq) 32 2 rfl (by simp) (Nat.le_refl _) ?_;intro a1 c1 w2 hown1 hgr1))
   have hb1:=((Below.refl w.heap.size w).alloc (Nat.le_refl _) (.cells #[.bool false,.int .i64 (64384+qq),.int .i64 32,.int .i64 2] 133))
   have hb2:Below w.heap.size w w2:=hb1.grown hgr1 (by simp) (fun j hj=>by cases hj)
   have hb3:=hb2.alloc hb2.size (.cells #[.bool false,.int .i64 (32768+rr),.int .i64 0,.int .i64 0] 133)
   have hown1':EOwn w2 w.heap.size (.slice a1 1 c1) [⟨false,64384+qq,32,2⟩]:=hown1
   go_wp2_with (first | (at_builtin;refine aak rfl _ _ rfl w.heap.size _ [⟨false,64384+qq,32,2⟩] rfl hown1' false (32768+rr) 0 0 rfl (by simp) hb2.size ?_;intro a2 c2 w3 hown2 hgr2))
   have hb4:Below w.heap.size w w3:=hb3.grown hgr2 (Nat.le_trans hb2.size (by simp)) (fun j hj=>(aah hown1' hj).1)
   go_wp2
   go_ret
   refine⟨_,rfl,?_,hb4⟩
   rw[HR.out]
   exact hown2
  ·have hBv:B=64448:=by rw[HB.out,if_neg (by omega),if_neg (by omega)]
   subst hBv
   have f0:13312≤n:=by omega
   have f1:131072≤n:=by omega
   have f2:19968≤n:=by omega
   have f3:63744≤n:=by omega
   have f4: ¬n≤19903:=by omega
   have f5: ¬n≤262143:=by omega
   have f6: ¬n≤40959:=by omega
   have f7: ¬n≤64255:=by omega
   clear hs HB hbi
   go_enter Tryz.func210,Tryz.ntmps210
   go_wp2_with fail
   refine(h1 _).mono ?_
   rintro _ w1 ⟨rfl,rfl⟩
   go_upto_region 10 with (first | (at_builtin;refine aak rfl _ _ rfl w.heap.size _ [] rfl (EOwn.nil _ _) false (64448+qq) 32 2 rfl (by simp) (Nat.le_refl _) ?_;intro a1 c1 w2 hown1 hgr1))
   have hb1:=((Below.refl w.heap.size w).alloc (Nat.le_refl _) (.cells #[.bool false,.int .i64 (64448+qq),.int .i64 32,.int .i64 2] 133))
   have hb2:Below w.heap.size w w2:=hb1.grown hgr1 (by simp) (fun j hj=>by cases hj)
   have hb3:=hb2.alloc hb2.size (.cells #[.bool false,.int .i64 (32768+rr),.int .i64 0,.int .i64 0] 133)
   have hown1':EOwn w2 w.heap.size (.slice a1 1 c1) [⟨false,64448+qq,32,2⟩]:=hown1
   go_wp2_with (first | (at_builtin;refine aak rfl _ _ rfl w.heap.size _ [⟨false,64448+qq,32,2⟩] rfl hown1' false (32768+rr) 0 0 rfl (by simp) hb2.size ?_;intro a2 c2 w3 hown2 hgr2))
   have hb4:Below w.heap.size w w3:=hb3.grown hgr2 (Nat.le_trans hb2.size (by simp)) (fun j hj=>(aah hown1' hj).1)
   go_wp2
   go_ret
   refine⟨_,rfl,?_,hb4⟩
   rw[HR.out]
   exact hown2
end Go.Proofs.YtpfkoldfbecdlaaGreatDoor
