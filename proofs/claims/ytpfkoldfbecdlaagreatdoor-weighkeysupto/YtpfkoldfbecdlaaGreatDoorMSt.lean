/- What the document's step does (a contract; nothing is claimed here). -/
import Derived.Test.YtpfkoldfbecdlaaGreatDoorJ32
import Derived.Test.YtpfkoldfbecdlaaGreatDoorJ22
import Derived.Deep.RegionHeld
namespace Go.Proofs.YtpfkoldfbecdlaaGreatDoor
open Go.RowKit Go.Vf Go.Maps
def LeftIs (W:World)(v:Value)(zs:List Int):Prop:= ∃a c,v=.slice a zs.length c∧(zs≠ []→ ∃b off,a=some ⟨b,off,none⟩∧Sl W.heap.size W b off c zs)
theorem LeftIs.of {W:World}{b off c:Nat}{zs:List Int}(h:Sl W.heap.size W b off c zs):LeftIs W (.slice (some ⟨b,off,none⟩) zs.length c) zs:=⟨_,_,rfl,fun _=>⟨b,off,rfl,h⟩⟩
theorem LeftIs.own {W:World}{base:Nat}{v:Value}{zs:List Int}(h:IOwn W base v zs)(hne:zs≠ []):LeftIs W v zs:=by
 obtain⟨b,c,rfl,_,hs⟩:=h.sl hne
 exact LeftIs.of hs
theorem scanD_fin {cls:Int→Int}{fnd:List Int→Bool}(r:List Int)(top:Int): ∀xs:List Int,(xs=[]∨ ∃x t,xs=x::t∧cls x=0)→ab1 cls fnd r top xs=(r,xs):=by
 rintro _ (rfl | ⟨x,t,rfl,h⟩)
 ·rfl
 ·unfold ab1;rw[if_pos h]
theorem afl {tmps:Array Value}{w:World}{h:Nat}{a b c:Value}(hb:Blk w h 209 #[a,b])(t6:tmps[6]?.getD undef=.pointer (some ⟨h,0,none⟩))(t7:tmps[7]?.getD undef=c):(results Tryz.f170 tmps).run Tryz.prog w=.ok (.tuple #[.agg #[a,b],c]) w:=by
 simp[results,Tryz.results170,go_sem,t6,t7,hb.cell 0,hb.cell 1]
def ScanAt (cls:Int→Int)(fnd:List Int→Bool)(G:List Int×List Int)(r stay xs:List Int)(top:Int):Prop:=G=((ab1 cls fnd r top xs).1,stay++(ab1 cls fnd r top xs).2)
theorem ScanAt.join {cls:Int→Int}{fnd:List Int→Bool}{G:List Int×List Int}{r stay xs:List Int}{x top:Int}(h:ScanAt cls fnd G r stay (x::xs) top)(hc:0<cls x)(hf:fnd (r++[x])=true)(ht:top<cls x):ScanAt cls fnd G (r++[x]) stay xs top:=by
 unfold ScanAt at h⊢
 rw[h,ab1,if_neg (by omega),if_pos ⟨hf,ht⟩]
theorem ScanAt.stay {cls:Int→Int}{fnd:List Int→Bool}{G:List Int×List Int}{r stay xs:List Int}{x top:Int}(h:ScanAt cls fnd G r stay (x::xs) top)(hc:0<cls x)(hn: ¬(fnd (r++[x])=true∧top<cls x)):ScanAt cls fnd G r (stay++[x]) xs (max top (cls x)):=by
 unfold ScanAt at h⊢
 rw[h,ab1,if_neg (by omega),if_neg hn]
 simp
theorem ScanAt.fin {cls:Int→Int}{fnd:List Int→Bool}{G:List Int×List Int}{r stay xs:List Int}{top:Int}(h:ScanAt cls fnd G r stay xs top)(hx:xs=[]∨ ∃x t,xs=x::t∧cls x=0):G=(r,stay++xs):=by
 unfold ScanAt at h
 rw[h,scanD_fin r top xs hx]
def StepPost (n₀:Nat)(l:List Ent)(G:List Int×List Int)(w:World)(e:Ending)(w':World):Prop:=
 Below w.heap.size w w'∧ ∃rv ev lv,e=.returned (.tuple #[.agg #[rv,ev],lv])∧IOwn w' w.heap.size rv G.1∧(Els n₀ w' ev (af7 l G.1)∨EOwn w' w.heap.size ev (af7 l G.1))∧LeftIs w' lv G.2
theorem impR_el {l:List Ent}{x:Int}(h:aaw l [x]=false):af7 l [x]=impR x:=by
 unfold af7
 unfold aaw at h
 cases hf:acm l [x] with
 | none=>rfl
 | some y=>rw[hf] at h;simp at h
theorem el_found {l:List Ent}{r:List Int}(h:aaw l r=true):af7 l r=(acm l r).getD []:=by
 unfold af7
 unfold aaw at h
 cases hf:acm l r with
 | none=>rw[hf] at h;simp at h
 | some y=>rfl
set_option maxHeartbeats 16000000 in
set_option maxRecDepth 20000 in
theorem refStep_any {t:List UInt8}{L:List Mk}{F:Int→List Int}(h:aav t=.ok (L,F)){da:Option Addr}{dn dc:Nat}{l:List Ent}{tv:Value}{b off cap n₀:Nat}{zs:List Int}{w:World}(hn₀:n₀≤w.heap.size)(hin:MIn w.heap.size w (.slice da dn dc) (aap L))(ht:RT n₀ w tv l)(hs:Sl w.heap.size w b off cap zs)(hne:zs≠ [])(hz:zs.length≤4000000):
  Calls Tryz.prog 170 #[.agg #[.slice da dn dc],.agg #[tv],.slice (some ⟨b,off,none⟩) zs.length cap] w fun e w'=>StepPost n₀ l (acl (aaa L) (aaw l) zs) w e w':=by
 obtain⟨G,hG⟩: ∃G,G=acl (aaa L) (aaw l) zs:=⟨_,rfl⟩
 have HG:Hid (G=acl (aaa L) (aaw l) zs):=hG
 rw[←hG]
 clear hG
 obtain⟨n,hn⟩: ∃n,n=ad7 (aaw l) zs:=⟨_,rfl⟩
 have HN:Hid (n=ad7 (aaw l) zs):=hn
 obtain⟨hn8,hn1⟩:n≤8∧n≤zs.length:=by rw[hn];exact⟨(headN_le zs).2,(headN_le zs).1⟩
 clear hn
 have hcapz:zs.length≤cap:=hs.cap
 have hz0:0<zs.length:=List.length_pos_iff.2 hne
 obtain⟨zn,hzn⟩: ∃zn,zs.length=zn:=⟨_,rfl⟩
 have HZN:Hid (zs.length=zn):=hzn
 obtain⟨va,vc,rfl⟩:=ht.inn.val
 obtain⟨ln,hln⟩: ∃ln,l.length=ln:=⟨_,rfl⟩
 rw[hln] at ht
 have hbA:=(Below.refl w.heap.size w).alloc (Nat.le_refl _) (.cells #[.slice da dn dc] 28)
 have hbB:=hbA.alloc (by simp) (.cells #[.slice va ln vc] 31)
 have hb0:=hbB.alloc (by simp;omega) (.cells #[.slice none 0 0,.slice none 0 0] 209)
 have hD1:=Blk.new w 28 #[.slice da dn dc]
 have hT1:=Blk.new (w.alloc (.cells #[.slice da dn dc] 28)) 31 #[.slice va ln vc]
 have hR1:=Blk.new ((w.alloc (.cells #[.slice da dn dc] 28)).alloc (.cells #[.slice va ln vc] 31)) 209 #[.slice none 0 0,.slice none 0 0]
 rw[show ((w.alloc (.cells #[.slice da dn dc] 28)).alloc (.cells #[.slice va ln vc] 31)).heap.size=w.heap.size+1+1 by simp] at hR1
 rw[show (w.alloc (.cells #[.slice da dn dc] 28)).heap.size=w.heap.size+1 by simp] at hT1
 have hT2:Blk (((w.alloc (.cells #[.slice da dn dc] 28)).alloc (.cells #[.slice va ln vc] 31)).alloc (.cells #[.slice none 0 0,.slice none 0 0] 209)) (w.heap.size+1) 31 #[.slice va ln vc]:=(Below.heap_alloc _ _ _ (by simp)).trans hT1
 have hD2:Blk (((w.alloc (.cells #[.slice da dn dc] 28)).alloc (.cells #[.slice va ln vc] 31)).alloc (.cells #[.slice none 0 0,.slice none 0 0] 209)) w.heap.size 28 #[.slice da dn dc]:=(Below.heap_alloc _ _ _ (by simp;omega)).trans ((Below.heap_alloc _ _ _ (by simp)).trans hD1)
 clear hbA hbB hD1 hT1
 rw[hzn] at hz hcapz hz0 hn1⊢
 clear hzn hne
 have hWsz:(((w.alloc (.cells #[.slice da dn dc] 28)).alloc (.cells #[.slice va ln vc] 31)).alloc (.cells #[.slice none 0 0,.slice none 0 0] 209)).heap.size=w.heap.size+1+1+1:=by simp
 go_enter Tryz.func170,Tryz.ntmps170
 go_upto_region 1 with fail
 generalize ((w.alloc (.cells #[.slice da dn dc] 28)).alloc (.cells #[.slice va ln vc] 31)).alloc (.cells #[.slice none 0 0,.slice none 0 0] 209)=W at hb0 hR1 hT2 hD2 hWsz⊢
 -- what any world above w bears
 have HC:Hid (∀x,Below W.heap.size W x→x.cell? ⟨w.heap.size,0,none⟩=some (.slice da dn dc)∧x.cell? ⟨w.heap.size+1,0,none⟩=some (.slice va ln vc)∧Blk x (w.heap.size+1+1) 209 #[.slice none 0 0,.slice none 0 0]):=fun x hx=>⟨(hx.cell (p:=⟨w.heap.size,0,none⟩) hD2.lt).trans (hD2.cell 0),(hx.cell (p:=⟨w.heap.size+1,0,none⟩) hT2.lt).trans (hT2.cell 0),hR1.below hx hR1.lt⟩
 have HX:Hid (∀x,Below w.heap.size w x→ ∀j,j<zn→x.cell? ⟨b,off+j,none⟩=some (.int .i64 (zs[j]?.getD 0))):=fun x hx j hj=>((hs.below hx (Nat.le_refl _)).cells j (by rw[HZN.out];exact hj))
 have HRW:Hid (∀x,Below w.heap.size w x→ ∀(va vb:Value) (xs ys:List Int),Ints x.heap.size x va xs→Ints x.heap.size x vb ys→xs.length+ys.length≤1099511627776→Calls Tryz.prog 209 #[va,vb] x fun e w'=> ∃a c,e=.returned (.slice a (xs.length+ys.length) c)∧IOwn w' x.heap.size (.slice a (xs.length+ys.length) c) (xs++ys)∧Below x.heap.size x w'):=fun x hx va vb xs ys h1 h2 h3=>(row_any va vb xs ys _ _ x h1 h2 (Nat.le_refl _) h3).mono fun e w' hq=>by
  obtain⟨v,rfl,ho,hb⟩:=hq
  obtain⟨a,c,hv⟩:=ho.val
  rw[List.length_append] at hv
  subst hv
  exact⟨a,c,rfl,ho,hb⟩
 have HCL:Hid (∀x,Below w.heap.size w x→ ∀q,Calls Tryz.prog 75 #[.agg #[.slice da dn dc],.int .i64 q] x fun e w'=>e=.returned (.int .i64 (aaa L q))∧Below x.heap.size x w'):=fun x hx q=>afn h q (hin.go hx)
 have HFI:Hid (∀x,Below w.heap.size w x→ ∀(pv:Value) (p:List Int),Ints x.heap.size x pv p→p.length≤4194304→Calls Tryz.prog 211 #[.agg #[.slice va ln vc],pv] x fun e w'=> ∃ea en ec,e=.returned (.tuple #[.slice ea en ec,.bool (aaw l p)])∧Els n₀ w' (.slice ea en ec) ((acm l p).getD [])∧Below x.heap.size x w'):=fun x hx pv p h1 h2=>(rfind_any (ht.below hx hn₀) (Nat.le_trans hn₀ hx.size) (Nat.le_refl _) h1 h2).mono fun e w' hq=>by
  obtain⟨u,rfl,he,hb⟩:=hq
  obtain⟨ea,ec,hv⟩:=he.val
  subst hv
  exact⟨ea,_,ec,rfl,he,hb⟩
 have HSL:Hid (∀x,Below w.heap.size w x→Sl x.heap.size x b off cap zs):=fun x hx=>(hs.below hx (Nat.le_refl _)).mono hx.size
 have hfs:=first_any (w:=W) ((ht.mono hn₀).below hb0 (Nat.le_refl _)) hb0.size (hs.below hb0 (Nat.le_refl _)) (by rw[HZN.out];exact hz)
 rw[HZN.out,←HN.out] at hfs
 have hcl0:=(afu h)
 have HCP:Hid (∀q,0≤aaa L q):=fun q=>(hcl0 q).1
 have t0:W.cell? ⟨w.heap.size+1,0,none⟩=some (.slice va ln vc):=hT2.cell 0
 have HBW:Hid (Below w.heap.size w W):=hb0
 have HWZ:Hid (W.heap.size=w.heap.size+1+1+1):=hWsz
 clear hD2 hT2 hR1 hs ht hin hcl0 h hb0 hln hWsz
 go_wp2_with fail
 refine hfs.mono ?_
 rintro e w1 ⟨rfl,hb1⟩
 clear hfs t0
 have HB1:Hid (Below W.heap.size W w1):=hb1
 have HB0:Hid (Below w.heap.size w w1):=HBW.out.trans (hb1.mono HBW.out.size)
 clear hb1
 by_cases hn0:n=0
 ·subst hn0
  have HGG:Hid (G=(zs.take 1,zs.drop 1)∧aaw l (zs.take 1)=false):=⟨by rw[HG.out];unfold acl;rw[if_pos HN.out.symm],headN_above (by rw[←HN.out];omega) (by omega) (by rw[HZN.out];omega)⟩
  obtain⟨x0,hx0⟩: ∃x0,x0=zs[0]?.getD 0:=⟨_,rfl⟩
  have HT1:Hid (zs.take 1=[x0]):=by
   have h1:0<zs.length:=by rw[HZN.out];omega
   show _=_
   rw[hx0]
   cases zs with
   | nil=>simp at h1
   | cons a r=>rfl
  have HRA:Hid (∀x,Below w.heap.size w x→Calls Tryz.prog 209 #[.slice (some ⟨b,off,none⟩) 1 cap,.slice none 0 0] x fun e w'=> ∃ra rc,e=.returned (.slice ra 1 rc)∧IOwn w' x.heap.size (.slice ra 1 rc) [x0]∧Below x.heap.size x w'):=fun x hx=>by
   have hi:=((HSL.out x hx).take (m:=1) (by rw[HZN.out];omega)).ints
   rw[HT1.out] at hi
   refine(HRW.out x hx _ _ [x0] [] hi (.inl ⟨none,0,rfl,rfl⟩) (by simp)).mono ?_
   rintro e w' ⟨a,c,rfl,ho,hb⟩
   exact⟨a,c,by simp,by simpa using ho,hb⟩
  have HIM:Hid (∀x,Below w.heap.size w x→Calls Tryz.prog 210 #[.int .i64 x0] x fun e w'=> ∃ea en ec,e=.returned (.slice ea en ec)∧EOwn w' x.heap.size (.slice ea en ec) (impR x0)∧Below x.heap.size x w'):=fun x hx=>(rImplied_any x0 x).mono fun e w' hq=>by
   obtain⟨v,rfl,ho,hb⟩:=hq
   obtain⟨a,c,hv⟩:=ho.els.val
   subst hv
   exact⟨a,_,c,rfl,ho,hb⟩
  have HC0:Hid (∀x,Below w.heap.size w x→x.cell? ⟨b,off,none⟩=some (.int .i64 x0)):=fun x hx=>by rw[hx0];exact HX.out x hx 0 (by omega)
  clear hx0
  obtain⟨o2,hif,ho2⟩: ∃o2,(if cap=1 then some (⟨b,off,none⟩:Addr) else some ⟨b,off+1,none⟩)=some ⟨b,o2,none⟩∧(1<zn→o2=off+1):=by
   by_cases h:cap=1
   ·exact⟨off,by rw[if_pos h],fun h2=>by omega⟩
   ·exact⟨off+1,by rw[if_neg h],fun _=>rfl⟩
  have HO2:Hid (1<zn→o2=off+1):=ho2
  clear ho2
  have h1c:(1:Int)≤(cap:Int):=by omega
  have h1d:1≤cap:=by omega
  have h1z:1≤zn:=hz0
  have h1y:(1:Int)≤(zn:Int):=by omega
  go_upto_region 3 with fail
  refine wp_region_held_drew (S:=fun x=>Below w.heap.size w x) (by kernel_rfl) (HB0.out.drew) (fun hHelda=> ?_)
  refine aab (i:=0) (some 24) (v:= ?va0) rfl rfl (by kernel_rfl) (by kernel_rfl) (by kernel_rfl) (fun _ _ _ h=>h) (Or.inl ⟨by kernel_rfl,?hya0⟩) (by assumption) ?resta0
  case hya0=>(intro x hSx;(try dsimp only at hSx);go_simp;first | done | with_reducible rfl)
  try simp only[Act.put,List.setIfInBounds_toArray,List.set_cons_zero,List.set_cons_succ]
  refine aab (i:=1) (some 25) (v:= ?va1) rfl rfl (by kernel_rfl) (by kernel_rfl) (by kernel_rfl) (fun _ _ _ h=>h) (Or.inl ⟨by kernel_rfl,?hya1⟩) (by assumption) ?resta1
  case hya1=>(intro x hSx;(try dsimp only at hSx);go_simp;first | done | with_reducible rfl)
  try simp only[Act.put,List.setIfInBounds_toArray,List.set_cons_zero,List.set_cons_succ]
  refine aab (i:=3) (some 27) (v:= ?va3) rfl rfl (by kernel_rfl) (by kernel_rfl) (by kernel_rfl) (fun _ _ _ h=>h) (Or.inl ⟨by kernel_rfl,?hya3⟩) (by assumption) ?resta3
  case hya3=>(intro x hSx;(try dsimp only at hSx);go_simp;first | done | with_reducible rfl)
  try simp only[Act.put,List.setIfInBounds_toArray,List.set_cons_zero,List.set_cons_succ]
  refine aab (i:=4) (some 28) (v:= ?va4) rfl rfl (by kernel_rfl) (by kernel_rfl) (by kernel_rfl) (fun _ _ _ h=>h) (Or.inl ⟨by kernel_rfl,?hya4⟩) (by assumption) ?resta4
  case hya4=>(intro x hSx;(try dsimp only at hSx);go_simp;first | done | with_reducible rfl)
  try simp only[Act.put,List.setIfInBounds_toArray,List.set_cons_zero,List.set_cons_succ]
  refine aab (i:=5) (some 29) (v:= ?va5) rfl rfl (by kernel_rfl) (by kernel_rfl) (by kernel_rfl) (fun _ _ _ h=>h) (Or.inl ⟨by kernel_rfl,?hya5⟩) (by assumption) ?resta5
  case hya5=>(intro x hSx;(try dsimp only at hSx);obtain hxc:=HC0.out x hSx;go_simp;first | done | with_reducible rfl)
  try simp only[Act.put,List.setIfInBounds_toArray,List.set_cons_zero,List.set_cons_succ]
  refine aab (i:=8) (some 32) (v:= ?va8) rfl rfl (by kernel_rfl) (by kernel_rfl) (by kernel_rfl) (fun _ _ _ h=>h) (Or.inl ⟨by kernel_rfl,?hya8⟩) (by assumption) ?resta8
  case hya8=>(intro x hSx;(try dsimp only at hSx);go_simp;first | done | with_reducible rfl)
  try simp only[Act.put,List.setIfInBounds_toArray,List.set_cons_zero,List.set_cons_succ]
  refine aab (i:=9) (some 33) (v:= ?va9) rfl rfl (by kernel_rfl) (by kernel_rfl) (by kernel_rfl) (fun _ _ _ h=>h) (Or.inl ⟨by kernel_rfl,?hya9⟩) (by assumption) ?resta9
  case hya9=>(intro x hSx;(try dsimp only at hSx);go_simp;first | done | with_reducible rfl)
  try simp only[Act.put,List.setIfInBounds_toArray,List.set_cons_zero,List.set_cons_succ]
  refine wpAnyH_ready (rs:=[2]) (by kernel_rfl) (by simp) ?_
  refine AllReadyH.cons rfl (fun K hK=> ?_) AllReadyH.nil
  go_simp
  go_wp2_with (go_at_call 209;refine(HRA.out _ hHelda).mono ?_;rintro e ya2 ⟨ra,rc,rfl,hra,hqa2⟩)
  refine hK.out _ _ (hHelda.trans (hqa2.mono hHelda.size)) (fun hHelda2=> ?_)
  clear hK K
  try simp only[Act.put,List.setIfInBounds_toArray,List.set_cons_zero,List.set_cons_succ]
  refine wpAnyH_ready (rs:=[6]) (by kernel_rfl) (by simp) ?_
  refine AllReadyH.cons rfl (fun K hK=> ?_) AllReadyH.nil
  go_simp
  go_wp2_with (go_at_call 210;refine(HIM.out _ hHelda2).mono ?_;rintro e ya6 ⟨ea,en,ec,rfl,hea,hqa6⟩)
  refine hK.out _ _ (hHelda2.trans (hqa6.mono hHelda2.size)) (fun hHelda6=> ?_)
  clear hK K
  try simp only[Act.put,List.setIfInBounds_toArray,List.set_cons_zero,List.set_cons_succ]
  refine aab (i:=7) (some 31) (v:= ?va7) rfl rfl (by kernel_rfl) (by kernel_rfl) (by kernel_rfl) (fun _ _ _ h=>h) (Or.inl ⟨by kernel_rfl,?hya7⟩) (by assumption) ?resta7
  case hya7=>(intro x hSx;(try dsimp only at hSx);go_simp;first | done | with_reducible rfl)
  try simp only[Act.put,List.setIfInBounds_toArray,List.set_cons_zero,List.set_cons_succ]
  refine wpAnyH_ready (rs:=[10]) (by kernel_rfl) (by simp) ?_
  refine AllReadyH.cons rfl (fun K hK=> ?_) AllReadyH.nil
  have hBq:Hid (Below W.heap.size W ya6):=HB1.out.drew.trans ((hqa2.trans (hqa6.mono hqa2.size)).mono HB1.out.drew.size)
  obtain⟨-,-,s2⟩:=HC.out _ hBq.out
  have sc0:=s2.cell 0
  have sf0:=s2.frozen 0
  have sc1:=s2.cell 1
  have sf1:=s2.frozen 1
  go_simp
  refine hK.out _ _ ((hHelda6.setCell (p:=⟨w.heap.size+1+1,0,none⟩) (show w.heap.size≤w.heap.size+1+1 by omega) _).setCell (p:=⟨w.heap.size+1+1,1,none⟩) (show w.heap.size≤w.heap.size+1+1 by omega) _) (fun hHelda10=> ?_)
  clear hK K
  try simp only[Act.put,List.setIfInBounds_toArray,List.set_cons_zero,List.set_cons_succ]
  refine aab (i:=11) (some 7) (v:= ?va11) rfl rfl (by kernel_rfl) (by kernel_rfl) (by kernel_rfl) (fun _ _ _ h=>h) (Or.inl ⟨by kernel_rfl,?hya11⟩) (by assumption) ?resta11
  case hya11=>(intro x hSx;(try dsimp only at hSx);go_simp;first | done | with_reducible rfl)
  try simp only[Act.put,List.setIfInBounds_toArray,List.set_cons_zero,List.set_cons_succ]
  refine wpAnyH_done (by kernel_rfl) ?_ _
  have HE:Hid _:=hHelda10
  have hB2:Blk ((ya6.setCell ⟨w.heap.size+1+1,0,none⟩ (.slice ra 1 rc)).setCell ⟨w.heap.size+1+1,1,none⟩ (.slice ea en ec)) (w.heap.size+1+1) 209 #[.slice ra 1 rc,.slice ea en ec]:=(s2.set 0 (.slice ra 1 rc)).set 1 (.slice ea en ec)
  have hcar: ∀k,k≠w.heap.size+1+1→((ya6.setCell ⟨w.heap.size+1+1,0,none⟩ (.slice ra 1 rc)).setCell ⟨w.heap.size+1+1,1,none⟩ (.slice ea en ec)).heap[k]? =ya6.heap[k]?:=fun k hk=>(Below.heap_setCell _ _ _ k hk).trans (Below.heap_setCell _ _ _ k hk)
  have hEw:Hid (Below w.heap.size w ((ya6.setCell ⟨w.heap.size+1+1,0,none⟩ (.slice ra 1 rc)).setCell ⟨w.heap.size+1+1,1,none⟩ (.slice ea en ec))):=HE.out
  have hRow:Hid (IOwn ((ya6.setCell ⟨w.heap.size+1+1,0,none⟩ (.slice ra 1 rc)).setCell ⟨w.heap.size+1+1,1,none⟩ (.slice ea en ec)) w.heap.size (.slice ra 1 rc) [x0]):=by
   have hr6:=aac hra hqa6
   have hz6:=hB2.lt
   refine aca (aae hr6 HB0.out.drew.size) fun q hq=>hcar q ?_
   have h1:=(aah hra hq).1
   have h2:=HB1.out.drew.size
   have h3:=HWZ.out
   omega
  have hEls:Hid (EOwn ((ya6.setCell ⟨w.heap.size+1+1,0,none⟩ (.slice ra 1 rc)).setCell ⟨w.heap.size+1+1,1,none⟩ (.slice ea en ec)) w.heap.size (.slice ea en ec) (impR x0)):=by
   refine aca (aae hea (HB0.out.drew.trans (hqa2.mono HB0.out.drew.size)).size) fun q hq=>hcar q ?_
   have h1:=(aah hea hq).1
   have h2:=HB1.out.drew.size
   have h3:=HWZ.out
   have h4:=hqa2.size
   omega
  go_wp2_with fail
  refine bodyPost_ret (afl hB2 rfl rfl) rfl ?_
  refine⟨hEw.out,_,_,_,rfl,?_,?_,?_⟩
  ·rw[HGG.out.1,HT1.out];exact hRow.out
  ·rw[HGG.out.1,HT1.out,impR_el (by rw[←HT1.out];exact HGG.out.2)];exact .inr hEls.out
  ·rw[HGG.out.1]
   have:=LeftIs.of (((HSL.out _ hEw.out).drop (m:=1) (o2:=o2) (by rw[HZN.out];omega) (fun h=>HO2.out (by rw[HZN.out] at h;exact h))))
   rw[List.length_drop,HZN.out] at this
   exact this
 ·have hnp:0<n:=by omega
  have HGG:Hid (ScanAt (aaa L) (aaw l) G (zs.take n) [] (zs.drop n) 0∧aaw l (zs.take n)=true∧(zs.take n).length=n∧(zs.drop n).length=zn-n):=by
   refine⟨?_,?_,by rw[List.length_take,HZN.out];omega,by rw[List.length_drop,HZN.out]⟩
   ·show _=_
    rw[HG.out]
    unfold acl
    rw[if_neg (by rw[←HN.out];exact hn0),←HN.out]
    rfl
   ·rw[HN.out];exact headN_hit (by rw[←HN.out];exact hn0)
  have hrow:Calls Tryz.prog 209 #[.slice (some ⟨b,off,none⟩) n cap,.slice none 0 0] w1 fun e w'=> ∃ra rc,e=.returned (.slice ra n rc)∧IOwn w' w1.heap.size (.slice ra n rc) (zs.take n)∧Below w1.heap.size w1 w':=by
   have hi:=((HSL.out w1 HB0.out).take (m:=n) (by rw[HZN.out];exact hn1)).ints
   rw[HGG.out.2.2.1] at hi
   refine(HRW.out w1 HB0.out _ _ (zs.take n) [] hi (.inl ⟨none,0,rfl,rfl⟩) (by rw[HGG.out.2.2.1];simp;omega)).mono ?_
   rintro e w' ⟨a,c,rfl,ho,hb⟩
   rw[HGG.out.2.2.1,List.append_nil] at ho
   exact⟨a,c,by rw[HGG.out.2.2.1];rfl,ho,hb⟩
  have hnc:n≤cap:=by omega
  go_wp2_with fail
  refine hrow.mono ?_
  rintro e w2 ⟨ra0,rc0,rfl,hor2,hq2⟩
  clear hrow
  have HOR2:Hid (IOwn w2 W.heap.size (.slice ra0 n rc0) (zs.take n)):=aae hor2 HB1.out.size
  have HB2:Hid (Below W.heap.size W w2):=HB1.out.trans (hq2.mono HB1.out.size)
  clear hor2 hq2 HB1 HB0
  obtain⟨o2,hif,ho2⟩: ∃o2,(if cap=n then some (⟨b,off,none⟩:Addr) else some ⟨b,off+n,none⟩)=some ⟨b,o2,none⟩∧(n<zn→o2=off+n):=by
   by_cases h:cap=n
   ·exact⟨off,by rw[if_pos h],fun h2=>by omega⟩
   ·exact⟨off+n,by rw[if_neg h],fun _=>rfl⟩
  have HXS:Hid (∀x,Below w.heap.size w x→Sl x.heap.size x b o2 (cap-n) (zs.drop n)):=fun x hx=>(HSL.out x hx).drop (by rw[HZN.out];exact hn1) (fun h=>ho2 (by rw[HZN.out] at h;exact h))
  have HR0:Hid ((zs.take n).length=n):=HGG.out.2.2.1
  have HF0:Hid (aaw l (zs.take n)=true):=HGG.out.2.1
  have HS0:Hid (ScanAt (aaa L) (aaw l) G (zs.take n) [] (zs.drop n) 0):=HGG.out.1
  have HXL:Hid ((zs.drop n).length=zn-n):=HGG.out.2.2.2
  obtain⟨xs,hxs⟩: ∃xs,xs=zs.drop n:=⟨_,rfl⟩
  obtain⟨r0,hr0⟩: ∃r0,r0=zs.take n:=⟨_,rfl⟩
  rw[←hxs] at HXS HS0 HXL
  rw[←hr0] at HR0 HF0 HS0 HOR2
  clear HGG hxs hr0 ho2 HG HN HX HSL HZN
  go_upto_region 6 with fail
  obtain⟨m,hm⟩: ∃m,m=zn-n:=⟨_,rfl⟩
  obtain⟨c2,hc2⟩: ∃c2,c2=cap-n:=⟨_,rfl⟩
  rw[←hm] at HXL
  rw[←hc2] at HXS
  simp only[←hm,←hc2]
  have hmz:m≤4000000∧m≤c2∧n≤8:=by omega
  clear hm hc2 hif hn0 hnp hnc hcapz hz0 hz hn1
  go_wp2_with fail
  go_loopw [9,10,11,12] (fun rv sv tv iv wr=> ∃(i:Nat) (top:Int) (r stay:List Int) (ra:Option Addr) (rn rc:Nat) (sa:Option Addr) (sn sc:Nat),i≤m∧iv=.int .i64 i∧tv=.int .i64 top∧rv=.slice ra rn rc∧sv=.slice sa sn sc∧Hid (0≤top∧rn=r.length∧sn=stay.length∧rn+sn=n+i∧aaw l r=true)∧Hid (IOwn wr W.heap.size (.slice ra rn rc) r)∧Hid (IOwn wr W.heap.size (.slice sa sn sc) stay)∧Hid (Apt (.slice sa sn sc) (.slice ra rn rc))∧Hid (ScanAt (aaa L) (aaw l) G r stay (xs.drop i) top)∧Hid (Below W.heap.size W wr)) (fun _ _ _ iv _=>m-(intOf iv).toNat)
  case atStart=>exact⟨0,0,r0,[],ra0,n,rc0,none,0,0,Nat.zero_le _,rfl,rfl,rfl,rfl,⟨by omega,HR0.out.symm,rfl,rfl,HF0.out⟩,HOR2.out,IOwn.nil _ _,(fun g hg=>by cases hg),HS0.out,HB2.out⟩
  case round=>
   clear HOR2 HR0 HF0 HS0 HB2
   obtain⟨i,top,r,stay,ra,rn,rc,sa,sn,sc,him,rfl,rfl,rfl,rfl,HLL,HOR,HOS,HAP,HSC,HBR⟩:=hrel
   have HBw:Hid (Below w.heap.size w wr):=HBW.out.trans (HBR.out.mono HBW.out.size)
   obtain⟨x,hx⟩: ∃x,x=xs[i]?.getD 0:=⟨_,rfl⟩
   have HCX:Hid (∀y,Below w.heap.size w y→i<m→y.cell? ⟨b,o2+i,none⟩=some (.int .i64 x)):=fun y hy hi=>by rw[hx];exact(HXS.out y hy).cells i (by rw[HXL.out];exact hi)
   have HDX:Hid (i<m→xs.drop i=x::xs.drop (i+1)):=fun hi=>by
    have hil:i<xs.length:=by rw[HXL.out];exact hi
    rw[hx,List.drop_eq_getElem_cons hil]
    simp[List.getElem?_eq_getElem hil]
   have HDE:Hid (¬i<m→xs.drop i=[]):=fun hi=>List.drop_of_length_le (by rw[HXL.out];omega)
   have hcc:=HCP.out x
   have HC1:Hid (∀y,Below w.heap.size w y→Calls Tryz.prog 75 #[.agg #[.slice da dn dc],.int .i64 x] y fun e w'=>e=.returned (.int .i64 (aaa L x))∧Below y.heap.size y w'):=fun y hy=>HCL.out y hy x
   obtain⟨c,hc⟩: ∃c,c=aaa L x:=⟨_,rfl⟩
   have HCE:Hid (c=aaa L x):=hc
   rw[←hc] at HC1 hcc
   clear hx hc
   obtain⟨bb,hbb⟩: ∃bb,bb=(decide (i<m)&&decide (0<c)):=⟨_,rfl⟩
   have HBB:Hid (bb=(decide (i<m)&&decide (0<c))):=hbb
   clear hbb
   go_upto_region 9 with fail
   go_cut [53] from 41 to 54 (fun v wx=>v=.bool bb∧Hid (Below wr.heap.size wr wx))
   case first=>
    by_cases hlt:i<m
    ·have tl:decide ((i:Int)<(m:Int))=true:=decide_eq_true (by omega)
     obtain rfl:bb=decide (0<c):=by rw[HBB.out,decide_eq_true hlt];rfl
     have HF9:Hid (∀y,Below wr.heap.size wr y→y.cell? ⟨w.heap.size,0,none⟩=some (.slice da dn dc)∧y.cell? ⟨b,o2+i,none⟩=some (.int .i64 x)):=fun y hy=>⟨(HC.out y (HBR.out.trans (hy.mono HBR.out.size))).1,HCX.out y (HBw.out.trans (hy.mono HBw.out.size)) hlt⟩
     have HC9:Hid (∀y,Below wr.heap.size wr y→Calls Tryz.prog 75 #[.agg #[.slice da dn dc],.int .i64 x] y fun e w'=>e=.returned (.int .i64 c)∧Below y.heap.size y w'):=fun y hy=>HC1.out y (HBw.out.trans (hy.mono HBw.out.size))
     clear HBB
     go_upto_region 9 with fail
     refine wp_region_held_drew (S:=fun x=>Below wr.heap.size wr x) (by kernel_rfl) ((Below.refl _ wr).drew) (fun hHeldc=> ?_)
     refine aab (i:=0) (some 41) (v:= ?vc0) rfl rfl (by kernel_rfl) (by kernel_rfl) (by kernel_rfl) (fun _ _ _ h=>h) (Or.inl ⟨by kernel_rfl,?hyc0⟩) (by assumption) ?restc0
     case hyc0=>(intro x hSx;(try dsimp only at hSx);go_simp;first | done | with_reducible rfl)
     try simp only[Act.put,List.setIfInBounds_toArray,List.set_cons_zero,List.set_cons_succ]
     refine aab (i:=1) (some 42) (v:= ?vc1) rfl rfl (by kernel_rfl) (by kernel_rfl) (by kernel_rfl) (fun _ _ _ h=>h) (Or.inl ⟨by kernel_rfl,?hyc1⟩) (by assumption) ?restc1
     case hyc1=>(intro x hSx;(try dsimp only at hSx);go_simp;first | done | with_reducible rfl)
     try simp only[Act.put,List.setIfInBounds_toArray,List.set_cons_zero,List.set_cons_succ]
     refine aab (i:=2) (some 43) (v:= ?vc2) rfl rfl (by kernel_rfl) (by kernel_rfl) (by kernel_rfl) (fun _ _ _ h=>h) (Or.inl ⟨by kernel_rfl,?hyc2⟩) (by assumption) ?restc2
     case hyc2=>(intro x hSx;(try dsimp only at hSx);go_simp;first | done | with_reducible rfl)
     try simp only[Act.put,List.setIfInBounds_toArray,List.set_cons_zero,List.set_cons_succ]
     refine aab (i:=3) (some 44) (v:=.bool true) rfl rfl (by kernel_rfl) (by kernel_rfl) (by kernel_rfl) (fun _ _ _ h=>h) (Or.inl ⟨by kernel_rfl,?hyc3⟩) (by assumption) ?restc3
     case hyc3=>(intro x hSx;(try dsimp only at hSx);go_simp;first | done | with_reducible rfl)
     try simp only[Act.put,List.setIfInBounds_toArray,List.set_cons_zero,List.set_cons_succ]
     refine aab (i:=4) (some 45) (v:=.bool true) rfl rfl (by kernel_rfl) (by kernel_rfl) (by kernel_rfl) (fun _ _ _ h=>h) (Or.inl ⟨by kernel_rfl,?hyc4⟩) (by assumption) ?restc4
     case hyc4=>(intro x hSx;(try dsimp only at hSx);go_simp;first | done | with_reducible rfl)
     try simp only[Act.put,List.setIfInBounds_toArray,List.set_cons_zero,List.set_cons_succ]
     refine aab (i:=5) (some 46) (v:= ?vc5) rfl rfl (by kernel_rfl) (by kernel_rfl) (by kernel_rfl) (fun _ _ _ h=>h) (Or.inl ⟨by kernel_rfl,?hyc5⟩) (by assumption) ?restc5
     case hyc5=>(intro x hSx;(try dsimp only at hSx);obtain⟨y0,y1⟩:=HF9.out x hSx;go_simp;first | done | with_reducible rfl)
     try simp only[Act.put,List.setIfInBounds_toArray,List.set_cons_zero,List.set_cons_succ]
     refine aab (i:=6) (some 47) (v:= ?vc6) rfl rfl (by kernel_rfl) (by kernel_rfl) (by kernel_rfl) (fun _ _ _ h=>h) (Or.inl ⟨by kernel_rfl,?hyc6⟩) (by assumption) ?restc6
     case hyc6=>(intro x hSx;(try dsimp only at hSx);go_simp;first | done | with_reducible rfl)
     try simp only[Act.put,List.setIfInBounds_toArray,List.set_cons_zero,List.set_cons_succ]
     refine aab (i:=7) (some 48) (v:= ?vc7) rfl rfl (by kernel_rfl) (by kernel_rfl) (by kernel_rfl) (fun _ _ _ h=>h) (Or.inl ⟨by kernel_rfl,?hyc7⟩) (by assumption) ?restc7
     case hyc7=>(intro x hSx;(try dsimp only at hSx);go_simp;first | done | with_reducible rfl)
     try simp only[Act.put,List.setIfInBounds_toArray,List.set_cons_zero,List.set_cons_succ]
     refine aab (i:=8) (some 49) (v:= ?vc8) rfl rfl (by kernel_rfl) (by kernel_rfl) (by kernel_rfl) (fun _ _ _ h=>h) (Or.inl ⟨by kernel_rfl,?hyc8⟩) (by assumption) ?restc8
     case hyc8=>(intro x hSx;(try dsimp only at hSx);go_simp;first | done | with_reducible rfl)
     try simp only[Act.put,List.setIfInBounds_toArray,List.set_cons_zero,List.set_cons_succ]
     refine aab (i:=9) (some 50) (v:= ?vc9) rfl rfl (by kernel_rfl) (by kernel_rfl) (by kernel_rfl) (fun _ _ _ h=>h) (Or.inl ⟨by kernel_rfl,?hyc9⟩) (by assumption) ?restc9
     case hyc9=>(intro x hSx;(try dsimp only at hSx);obtain⟨y0,y1⟩:=HF9.out x hSx;go_simp;first | done | with_reducible rfl)
     try simp only[Act.put,List.setIfInBounds_toArray,List.set_cons_zero,List.set_cons_succ]
     refine wpAnyH_ready (rs:=[10]) (by kernel_rfl) (by simp) ?_
     refine AllReadyH.cons rfl (fun K hK=> ?_) AllReadyH.nil
     go_simp
     go_wp2_with (go_at_call 75;refine(HC9.out _ hHeldc).mono ?_;rintro e yc10 ⟨rfl,hqc10⟩)
     refine hK.out _ _ (hHeldc.trans (hqc10.mono hHeldc.size)) (fun hHeldc10=> ?_)
     clear hK K
     try simp only[Act.put,List.setIfInBounds_toArray,List.set_cons_zero,List.set_cons_succ]
     refine aab (i:=11) (some 52) (v:= ?vc11) rfl rfl (by kernel_rfl) (by kernel_rfl) (by kernel_rfl) (fun _ _ _ h=>h) (Or.inl ⟨by kernel_rfl,?hyc11⟩) (by assumption) ?restc11
     case hyc11=>(intro x hSx;(try dsimp only at hSx);go_simp;first | done | with_reducible rfl)
     try simp only[Act.put,List.setIfInBounds_toArray,List.set_cons_zero,List.set_cons_succ]
     refine aab (i:=12) (some 53) (v:= ?vc12) rfl rfl (by kernel_rfl) (by kernel_rfl) (by kernel_rfl) (fun _ _ _ h=>h) (Or.inl ⟨by kernel_rfl,?hyc12⟩) (by assumption) ?restc12
     case hyc12=>(intro x hSx;(try dsimp only at hSx);go_simp;first | done | with_reducible rfl)
     try simp only[Act.put,List.setIfInBounds_toArray,List.set_cons_zero,List.set_cons_succ]
     refine wpAnyH_done (by kernel_rfl) ?_ _
     go_wp2_with fail
     go_meet
     exact⟨rfl,hHeldc10⟩
    ·have tl:decide ((i:Int)<(m:Int))=false:=decide_eq_false (by omega)
     obtain rfl:bb=false:=by rw[HBB.out,decide_eq_false hlt];rfl
     clear HBB
     go_upto_region 9 with fail
     refine wp_region_held_drew (S:=fun x=>Below wr.heap.size wr x) (by kernel_rfl) ((Below.refl _ wr).drew) (fun hHeldd=> ?_)
     refine aab (i:=0) (some 41) (v:= ?vd0) rfl rfl (by kernel_rfl) (by kernel_rfl) (by kernel_rfl) (fun _ _ _ h=>h) (Or.inl ⟨by kernel_rfl,?hyd0⟩) (by assumption) ?restd0
     case hyd0=>(intro x hSx;(try dsimp only at hSx);go_simp;first | done | with_reducible rfl)
     try simp only[Act.put,List.setIfInBounds_toArray,List.set_cons_zero,List.set_cons_succ]
     refine aab (i:=1) (some 42) (v:= ?vd1) rfl rfl (by kernel_rfl) (by kernel_rfl) (by kernel_rfl) (fun _ _ _ h=>h) (Or.inl ⟨by kernel_rfl,?hyd1⟩) (by assumption) ?restd1
     case hyd1=>(intro x hSx;(try dsimp only at hSx);go_simp;first | done | with_reducible rfl)
     try simp only[Act.put,List.setIfInBounds_toArray,List.set_cons_zero,List.set_cons_succ]
     refine aab (i:=2) (some 43) (v:= ?vd2) rfl rfl (by kernel_rfl) (by kernel_rfl) (by kernel_rfl) (fun _ _ _ h=>h) (Or.inl ⟨by kernel_rfl,?hyd2⟩) (by assumption) ?restd2
     case hyd2=>(intro x hSx;(try dsimp only at hSx);go_simp;first | done | with_reducible rfl)
     try simp only[Act.put,List.setIfInBounds_toArray,List.set_cons_zero,List.set_cons_succ]
     refine aab (i:=3) (some 44) (v:=.bool false) rfl rfl (by kernel_rfl) (by kernel_rfl) (by kernel_rfl) (fun _ _ _ h=>h) (Or.inl ⟨by kernel_rfl,?hyd3⟩) (by assumption) ?restd3
     case hyd3=>(intro x hSx;(try dsimp only at hSx);go_simp;first | done | with_reducible rfl)
     try simp only[Act.put,List.setIfInBounds_toArray,List.set_cons_zero,List.set_cons_succ]
     refine aab (i:=4) (some 45) (v:=.bool false) rfl rfl (by kernel_rfl) (by kernel_rfl) (by kernel_rfl) (fun _ _ _ h=>h) (Or.inl ⟨by kernel_rfl,?hyd4⟩) (by assumption) ?restd4
     case hyd4=>(intro x hSx;(try dsimp only at hSx);go_simp;first | done | with_reducible rfl)
     try simp only[Act.put,List.setIfInBounds_toArray,List.set_cons_zero,List.set_cons_succ]
     refine aab (i:=5) (some 46) (v:=undef) rfl rfl (by kernel_rfl) (by kernel_rfl) (by kernel_rfl) (fun _ _ _ h=>h) (Or.inr ⟨by kernel_rfl,rfl⟩) (by assumption) ?_
     try simp only[Act.put,List.setIfInBounds_toArray,List.set_cons_zero,List.set_cons_succ]
     refine aab (i:=6) (some 47) (v:=undef) rfl rfl (by kernel_rfl) (by kernel_rfl) (by kernel_rfl) (fun _ _ _ h=>h) (Or.inr ⟨by kernel_rfl,rfl⟩) (by assumption) ?_
     try simp only[Act.put,List.setIfInBounds_toArray,List.set_cons_zero,List.set_cons_succ]
     refine aab (i:=7) (some 48) (v:=undef) rfl rfl (by kernel_rfl) (by kernel_rfl) (by kernel_rfl) (fun _ _ _ h=>h) (Or.inr ⟨by kernel_rfl,rfl⟩) (by assumption) ?_
     try simp only[Act.put,List.setIfInBounds_toArray,List.set_cons_zero,List.set_cons_succ]
     refine aab (i:=8) (some 49) (v:=undef) rfl rfl (by kernel_rfl) (by kernel_rfl) (by kernel_rfl) (fun _ _ _ h=>h) (Or.inr ⟨by kernel_rfl,rfl⟩) (by assumption) ?_
     try simp only[Act.put,List.setIfInBounds_toArray,List.set_cons_zero,List.set_cons_succ]
     refine aab (i:=9) (some 50) (v:=undef) rfl rfl (by kernel_rfl) (by kernel_rfl) (by kernel_rfl) (fun _ _ _ h=>h) (Or.inr ⟨by kernel_rfl,rfl⟩) (by assumption) ?_
     try simp only[Act.put,List.setIfInBounds_toArray,List.set_cons_zero,List.set_cons_succ]
     refine aab (i:=10) (some 51) (v:=undef) rfl rfl (by kernel_rfl) (by kernel_rfl) (by kernel_rfl) (fun _ _ _ h=>h) (Or.inr ⟨by kernel_rfl,rfl⟩) (by assumption) ?_
     try simp only[Act.put,List.setIfInBounds_toArray,List.set_cons_zero,List.set_cons_succ]
     refine aab (i:=11) (some 52) (v:=undef) rfl rfl (by kernel_rfl) (by kernel_rfl) (by kernel_rfl) (fun _ _ _ h=>h) (Or.inr ⟨by kernel_rfl,rfl⟩) (by assumption) ?_
     try simp only[Act.put,List.setIfInBounds_toArray,List.set_cons_zero,List.set_cons_succ]
     refine aab (i:=12) (some 53) (v:=.bool false) rfl rfl (by kernel_rfl) (by kernel_rfl) (by kernel_rfl) (fun _ _ _ h=>h) (Or.inl ⟨by kernel_rfl,?hyd12⟩) (by assumption) ?restd12
     case hyd12=>(intro x hSx;(try dsimp only at hSx);go_simp;first | done | with_reducible rfl)
     try simp only[Act.put,List.setIfInBounds_toArray,List.set_cons_zero,List.set_cons_succ]
     refine wpAnyH_done (by kernel_rfl) ?_ _
     go_wp2_with fail
     go_meet
     exact⟨rfl,hHeldd⟩
   case rest=>
    obtain⟨rfl,HBQ⟩:=hcut
    have HORc:Hid (IOwn wc W.heap.size (.slice ra rn rc) r):=aac HOR.out HBQ.out
    have HOSc:Hid (IOwn wc W.heap.size (.slice sa sn sc) stay):=aac HOS.out HBQ.out
    have HBC:Hid (Below W.heap.size W wc):=HBR.out.trans (HBQ.out.mono HBR.out.size)
    have HBc:Hid (Below w.heap.size w wc):=HBw.out.trans (HBQ.out.mono HBw.out.size)
    clear HOR HOS HBQ HBR HBw
    cases bb with
    | true=>
     obtain⟨hlt,hcp⟩:i<m∧0<c:=by have:=HBB.out;simpa using this.symm
     clear HBB
     have tl:decide ((i:Int)<(m:Int))=true:=decide_eq_true (by omega)
     have HF9:Hid (∀y,Below wc.heap.size wc y→y.cell? ⟨w.heap.size,0,none⟩=some (.slice da dn dc)∧y.cell? ⟨b,o2+i,none⟩=some (.int .i64 x)):=fun y hy=>⟨(HC.out y (HBC.out.trans (hy.mono HBC.out.size))).1,HCX.out y (HBc.out.trans (hy.mono HBc.out.size)) hlt⟩
     have HC9:Hid (∀y,Below wc.heap.size wc y→Calls Tryz.prog 75 #[.agg #[.slice da dn dc],.int .i64 x] y fun e w'=>e=.returned (.int .i64 c)∧Below y.heap.size y w'):=fun y hy=>HC1.out y (HBc.out.trans (hy.mono HBc.out.size))
     go_upto_region 10 with fail
     refine wp_region_held_drew (S:=fun x=>Below wc.heap.size wc x) (by kernel_rfl) ((Below.refl _ wc).drew) (fun hHelde=> ?_)
     refine aab (i:=0) (some 54) (v:= ?ve0) rfl rfl (by kernel_rfl) (by kernel_rfl) (by kernel_rfl) (fun _ _ _ h=>h) (Or.inl ⟨by kernel_rfl,?hye0⟩) (by assumption) ?reste0
     case hye0=>(intro x hSx;(try dsimp only at hSx);obtain⟨y0,y1⟩:=HF9.out x hSx;go_simp;first | done | with_reducible rfl)
     try simp only[Act.put,List.setIfInBounds_toArray,List.set_cons_zero,List.set_cons_succ]
     refine aab (i:=1) (some 55) (v:= ?ve1) rfl rfl (by kernel_rfl) (by kernel_rfl) (by kernel_rfl) (fun _ _ _ h=>h) (Or.inl ⟨by kernel_rfl,?hye1⟩) (by assumption) ?reste1
     case hye1=>(intro x hSx;(try dsimp only at hSx);go_simp;first | done | with_reducible rfl)
     try simp only[Act.put,List.setIfInBounds_toArray,List.set_cons_zero,List.set_cons_succ]
     refine aab (i:=2) (some 56) (v:= ?ve2) rfl rfl (by kernel_rfl) (by kernel_rfl) (by kernel_rfl) (fun _ _ _ h=>h) (Or.inl ⟨by kernel_rfl,?hye2⟩) (by assumption) ?reste2
     case hye2=>(intro x hSx;(try dsimp only at hSx);go_simp;first | done | with_reducible rfl)
     try simp only[Act.put,List.setIfInBounds_toArray,List.set_cons_zero,List.set_cons_succ]
     refine aab (i:=3) (some 57) (v:= ?ve3) rfl rfl (by kernel_rfl) (by kernel_rfl) (by kernel_rfl) (fun _ _ _ h=>h) (Or.inl ⟨by kernel_rfl,?hye3⟩) (by assumption) ?reste3
     case hye3=>(intro x hSx;(try dsimp only at hSx);go_simp;first | done | with_reducible rfl)
     try simp only[Act.put,List.setIfInBounds_toArray,List.set_cons_zero,List.set_cons_succ]
     refine aab (i:=4) (some 58) (v:= ?ve4) rfl rfl (by kernel_rfl) (by kernel_rfl) (by kernel_rfl) (fun _ _ _ h=>h) (Or.inl ⟨by kernel_rfl,?hye4⟩) (by assumption) ?reste4
     case hye4=>(intro x hSx;(try dsimp only at hSx);obtain⟨y0,y1⟩:=HF9.out x hSx;go_simp;first | done | with_reducible rfl)
     try simp only[Act.put,List.setIfInBounds_toArray,List.set_cons_zero,List.set_cons_succ]
     refine wpAnyH_ready (rs:=[5]) (by kernel_rfl) (by simp) ?_
     refine AllReadyH.cons rfl (fun K hK=> ?_) AllReadyH.nil
     go_simp
     go_wp2_with (go_at_call 75;refine(HC9.out _ hHelde).mono ?_;rintro e ye5 ⟨rfl,hqe5⟩)
     refine hK.out _ _ (hHelde.trans (hqe5.mono hHelde.size)) (fun hHelde5=> ?_)
     clear hK K
     try simp only[Act.put,List.setIfInBounds_toArray,List.set_cons_zero,List.set_cons_succ]
     refine aab (i:=6) (some 13) (v:= ?ve6) rfl rfl (by kernel_rfl) (by kernel_rfl) (by kernel_rfl) (fun _ _ _ h=>h) (Or.inl ⟨by kernel_rfl,?hye6⟩) (by assumption) ?reste6
     case hye6=>(intro x hSx;(try dsimp only at hSx);go_simp;first | done | with_reducible rfl)
     try simp only[Act.put,List.setIfInBounds_toArray,List.set_cons_zero,List.set_cons_succ]
     refine wpAnyH_done (by kernel_rfl) ?_ _
     have HBE:Hid (Below wc.heap.size wc ye5):=hHelde5
     have HORe:Hid (IOwn ye5 W.heap.size (.slice ra rn rc) r):=aac HORc.out HBE.out
     have HOSe:Hid (IOwn ye5 W.heap.size (.slice sa sn sc) stay):=aac HOSc.out HBE.out
     have HBEw:Hid (Below w.heap.size w ye5):=HBc.out.trans (HBE.out.mono HBc.out.size)
     have HBEW:Hid (Below W.heap.size W ye5):=HBC.out.trans (HBE.out.mono HBC.out.size)
     have cx:=HCX.out ye5 HBEw.out hlt
     have hlg:Calls Tryz.prog 209 #[.slice ra rn rc,.slice (some ⟨ye5.heap.size,0,none⟩) 1 1] (ye5.alloc (.cells #[.int .i64 x] 3)) fun e w'=> ∃a c,e=.returned (.slice a (rn+1) c)∧IOwn w' (ye5.heap.size+1) (.slice a (rn+1) c) (r++[x])∧Below ye5.heap.size ye5 w':=by
      have hbA:=(Below.refl ye5.heap.size ye5).alloc (Nat.le_refl _) (.cells #[.int .i64 x] 3)
      have hi:=IOwn.ints (aac HORe.out hbA)
      have hnw:Ints (ye5.alloc (.cells #[.int .i64 x] 3)).heap.size (ye5.alloc (.cells #[.int .i64 x] 3)) (.slice (some ⟨ye5.heap.size,0,none⟩) 1 1) [x]:=.inr ⟨ye5.heap.size,0,1,rfl,by simp,fun j hj=>by
       obtain rfl:j=0:=by simpa using hj
       exact(Blk.new ye5 3 #[.int .i64 x]).cell 0⟩
      refine(HRW.out _ (HBEw.out.trans (hbA.mono HBEw.out.size)) _ _ r [x] hi hnw (by have:=HLL.out;simp;omega)).mono ?_
      rintro e w' ⟨a,c,rfl,ho,hb⟩
      have hz:(ye5.alloc (.cells #[.int .i64 x] 3)).heap.size=ye5.heap.size+1:=by simp
      rw[hz] at ho
      have e1:r.length+[x].length=rn+1:=by rw[HLL.out.2.1];rfl
      rw[e1] at ho
      exact⟨a,c,by rw[e1],ho,hbA.trans (hb.mono hbA.size)⟩
     go_wp2_with fail
     refine hlg.mono ?_
     rintro e w5 ⟨la,lc,rfl,hlo,hq5⟩
     clear hlg cx
     have HOR5:Hid (IOwn w5 W.heap.size (.slice ra rn rc) r):=aac HORe.out hq5
     have HOS5:Hid (IOwn w5 W.heap.size (.slice sa sn sc) stay):=aac HOSe.out hq5
     have HB5:Hid (Below w.heap.size w w5):=HBEw.out.trans (hq5.mono HBEw.out.size)
     have HB5W:Hid (Below W.heap.size W w5):=HBEW.out.trans (hq5.mono HBEW.out.size)
     have HAP5:Hid (Apt (.slice sa sn sc) (.slice la (rn+1) lc)):=apt_new HOSe.out hlo (by omega)
     have HLO5:Hid (IOwn w5 W.heap.size (.slice la (rn+1) lc) (r++[x])):=aae hlo (by have:=HBEW.out.size;omega)
     have hfi:=HFI.out w5 HB5.out _ (r++[x]) HLO5.out.ints (by have:=HLL.out;simp;omega)
     obtain⟨-,t1,-⟩:=HC.out w5 HB5W.out
     clear hlo hq5 HORe HOSe HBEw HBEW HBE
     go_wp2_with fail
     refine hfi.mono ?_
     rintro e w6 ⟨ea,en,ec,rfl,-,hq6⟩
     clear hfi t1
     have HOR6:Hid (IOwn w6 W.heap.size (.slice ra rn rc) r):=aac HOR5.out hq6
     have HOS6:Hid (IOwn w6 W.heap.size (.slice sa sn sc) stay):=aac HOS5.out hq6
     have HLO6:Hid (IOwn w6 W.heap.size (.slice la (rn+1) lc) (r++[x])):=aac HLO5.out hq6
     have HB6:Hid (Below w.heap.size w w6):=HB5.out.trans (hq6.mono HB5.out.size)
     have HB6W:Hid (Below W.heap.size W w6):=HB5W.out.trans (hq6.mono HB5W.out.size)
     clear HOR5 HOS5 HLO5 HB5 HB5W hq6
     have cx:=HCX.out w6 HB6.out hlt
     have HSX:Hid (ScanAt (aaa L) (aaw l) G r stay (x::xs.drop (i+1)) top):=by rw[←HDX.out hlt];exact HSC.out
     obtain⟨fb,hfb⟩: ∃fb,fb=aaw l (r++[x]):=⟨_,rfl⟩
     have HFB:Hid (fb=aaw l (r++[x])):=hfb
     rw[←hfb]
     clear hfb HSC
     by_cases hj:fb=true∧top<c
     ·obtain⟨rfl,htc⟩:=hj
      have tt:decide (top<c)=true:=decide_eq_true htc
      have HS2:Hid (ScanAt (aaa L) (aaw l) G (r++[x]) stay (xs.drop (i+1)) top):=HSX.out.join (by rw[←HCE.out];exact hcp) HFB.out.symm (by rw[←HCE.out];exact htc)
      have HL2:Hid (0≤top∧rn+1=(r++[x]).length∧sn=stay.length∧rn+1+sn=n+(i+1)∧aaw l (r++[x])=true):=⟨HLL.out.1,by rw[HLL.out.2.1];simp,HLL.out.2.2.1,by have:=HLL.out.2.2.2.1;omega,HFB.out.symm⟩
      clear HSX HFB HLL cx
      go_wp2_with fail
      go_roundw
      case rel=>exact⟨i+1,top,r++[x],stay,la,rn+1,lc,sa,sn,sc,by omega,by simp,rfl,rfl,rfl,HL2,HLO6,HOS6,HAP5,HS2,HB6W⟩
      case measure=>simp only[intOf];omega
     ·have HS2:Hid (ScanAt (aaa L) (aaw l) G r (stay++[x]) (xs.drop (i+1)) (max top c)):=by
       have:=HSX.out.stay (by rw[←HCE.out];exact hcp) (by rw[←HFB.out,←HCE.out];exact hj)
       rw[←HCE.out] at this
       exact this
      have hpb:(fb&&decide (top<c))=false:=by
       cases fb with
       | false=>rfl
       | true=>simpa using hj
      have HL2:Hid (0≤max top c∧rn=r.length∧sn+1=(stay++[x]).length∧rn+(sn+1)=n+(i+1)∧aaw l r=true):=⟨by have:=HLL.out.1;omega,HLL.out.2.1,by rw[HLL.out.2.2.1];simp,by have:=HLL.out.2.2.2.1;omega,HLL.out.2.2.2.2⟩
      have hzB:=HB6W.out.size
      have HSA:Hid (IOwn (w6.alloc (.cells #[.int .i64 x] 3)) W.heap.size (.slice sa sn sc) stay):=aac HOS6.out ((Below.refl w6.heap.size w6).alloc (Nat.le_refl _) _)
      have HRA6:Hid (IOwn (w6.alloc (.cells #[.int .i64 x] 3)) W.heap.size (.slice ra rn rc) r):=aac HOR6.out ((Below.refl w6.heap.size w6).alloc (Nat.le_refl _) _)
      have hnb:=Blk.new w6 3 #[.int .i64 x]
      have hzA:(w6.alloc (.cells #[.int .i64 x] 3)).heap.size=w6.heap.size+1:=by simp
      have HZA:Hid ((w6.alloc (.cells #[.int .i64 x] 3)).heap.size=w6.heap.size+1):=hzA
      have hsn:stay.length≤4000008:=by have:=HLL.out;omega
      have hwA:W.heap.size≤(w6.alloc (.cells #[.int .i64 x] 3)).heap.size:=by omega
      have HSN:Hid (sn=stay.length):=HLL.out.2.2.1
      have HL3:Hid (0≤max top c∧rn=r.length∧stay.length+1=(stay++[x]).length∧rn+(stay.length+1)=n+(i+1)∧aaw l r=true):=by
       have:=HL2.out
       rw[HSN.out] at this
       exact this
      clear HSX HFB HLL hzA HL2
      have hone: ∀j,j< [x].length→(w6.alloc (.cells #[.int .i64 x] 3)).cell? ((⟨w6.heap.size,0,none⟩:Addr).add j)=some (.int .i64 ([x][j]?.getD 0)):=fun j hj=>by
       obtain rfl:j=0:=by simpa using hj
       exact hnb.cell 0
      have HONE:Hid _:=hone
      clear hone hnb
      cases fb with
      | false=>
       clear hj
       go_wp2_with (at_builtin;refine aaf rfl _ _ rfl W.heap.size _ stay rfl HSA.out [x] ⟨w6.heap.size,0,none⟩ _ rfl HONE.out (by simp;omega) hwA ?_;intro a7 c7 w7 hown7 hgr7 hni7 hat7;have HO7:Hid _:=hown7;have HG7:Hid _:=hgr7;have HT7:Hid _:=hat7;clear hown7 hgr7 hni7 hat7)
       have HB7:Hid (Below W.heap.size W w7):=(HB6W.out.alloc hzB _).grown HG7.out hwA (fun j hj=>(aah HSA.out hj).1)
       have HOR7:Hid (IOwn w7 W.heap.size (.slice ra rn rc) r):=aa0 HRA6.out HG7.out HAP.out
       have HOS7:Hid (IOwn w7 W.heap.size (.slice a7 (stay.length+1) c7) (stay++[x])):=HO7.out
       have HAP7:Hid (Apt (.slice a7 (stay.length+1) c7) (.slice ra rn rc)):=fun q h1 h2=>by
        rcases HT7.out with e | e
        ·exact HAP.out q (e.symm.trans h1) h2
        ·have h3:=own_lt HOR6.out q h2
         have h4:some q=some (w6.alloc (.cells #[.int .i64 x] 3)).heap.size:=h1.symm.trans e
         have h5:=HZA.out
         simp only[Option.some.injEq] at h4
         omega
       go_roundw
       case rel=>exact⟨i+1,max top c,r,stay++[x],ra,rn,rc,a7,stay.length+1,c7,by omega,by simp,rfl,rfl,rfl,HL3,HOR7,HOS7,HAP7,HS2,HB7⟩
       case measure=>simp only[intOf];omega
      | true=>
       have tt:decide (top<c)=false:=by simpa using hpb
       clear hj
       go_wp2_with (at_builtin;refine aaf rfl _ _ rfl W.heap.size _ stay rfl HSA.out [x] ⟨w6.heap.size,0,none⟩ _ rfl HONE.out (by simp;omega) hwA ?_;intro a7 c7 w7 hown7 hgr7 hni7 hat7;have HO7:Hid _:=hown7;have HG7:Hid _:=hgr7;have HT7:Hid _:=hat7;clear hown7 hgr7 hni7 hat7)
       have HB7:Hid (Below W.heap.size W w7):=(HB6W.out.alloc hzB _).grown HG7.out hwA (fun j hj=>(aah HSA.out hj).1)
       have HOR7:Hid (IOwn w7 W.heap.size (.slice ra rn rc) r):=aa0 HRA6.out HG7.out HAP.out
       have HOS7:Hid (IOwn w7 W.heap.size (.slice a7 (stay.length+1) c7) (stay++[x])):=HO7.out
       have HAP7:Hid (Apt (.slice a7 (stay.length+1) c7) (.slice ra rn rc)):=fun q h1 h2=>by
        rcases HT7.out with e | e
        ·exact HAP.out q (e.symm.trans h1) h2
        ·have h3:=own_lt HOR6.out q h2
         have h4:some q=some (w6.alloc (.cells #[.int .i64 x] 3)).heap.size:=h1.symm.trans e
         have h5:=HZA.out
         simp only[Option.some.injEq] at h4
         omega
       go_roundw
       case rel=>exact⟨i+1,max top c,r,stay++[x],ra,rn,rc,a7,stay.length+1,c7,by omega,by simp,rfl,rfl,rfl,HL3,HOR7,HOS7,HAP7,HS2,HB7⟩
       case measure=>simp only[intOf];omega
    | false=>
     have hno: ¬(i<m∧0<c):=by have:=HBB.out;simpa using this.symm
     have HGE:Hid (G=(r,stay++xs.drop i)):=HSC.out.fin (by
      by_cases hlt:i<m
      ·exact .inr ⟨x,_,HDX.out hlt,by rw[←HCE.out];omega⟩
      ·exact .inl (HDE.out hlt))
     have HDL:Hid ((xs.drop i).length=m-i):=by show _=_;rw[List.length_drop,HXL.out]
     clear HBB HDX HDE HCX HC1 hno HSC
     have hfi:=HFI.out wc HBc.out _ r HORc.out.ints (by have:=HLL.out;omega)
     obtain⟨-,t1,-⟩:=HC.out wc HBC.out
     go_wp2_with fail
     refine hfi.mono ?_
     rintro e w5 ⟨ea,en,ec,rfl,hel5,hq5⟩
     clear hfi t1
     have HOR5:Hid (IOwn w5 W.heap.size (.slice ra rn rc) r):=aac HORc.out hq5
     have HOS5:Hid (IOwn w5 W.heap.size (.slice sa sn sc) stay):=aac HOSc.out hq5
     have HB5:Hid (Below w.heap.size w w5):=HBc.out.trans (hq5.mono HBc.out.size)
     have HB5W:Hid (Below W.heap.size W w5):=HBC.out.trans (hq5.mono HBC.out.size)
     have HE5:Hid (Els n₀ w5 (.slice ea en ec) (af7 l r)):=by rw[el_found HLL.out.2.2.2.2];exact hel5
     obtain⟨o3,hif,ho3⟩: ∃o3,(if c2=i then some (⟨b,o2,none⟩:Addr) else some ⟨b,o2+i,none⟩)=some ⟨b,o3,none⟩∧(i<m→o3=o2+i):=by
      by_cases h:c2=i
      ·exact⟨o2,by rw[if_pos h],fun h2=>by omega⟩
      ·exact⟨o2+i,by rw[if_neg h],fun _=>rfl⟩
     have HXD:Hid (∀x,Below w.heap.size w x→Sl x.heap.size x b o3 (c2-i) (xs.drop i)):=fun x hx=>(HXS.out x hx).drop (by rw[HXL.out];exact him) (fun h=>ho3 (by rw[HXL.out] at h;exact h))
     have hic:i≤c2:=by omega
     clear ho3 hel5 hq5 HORc HOSc HBc HBC
     by_cases hs0:sn=0
     ·subst hs0
      have HST:Hid (stay=[]):=List.eq_nil_of_length_eq_zero HLL.out.2.2.1.symm
      obtain⟨-,-,s2⟩:=HC.out w5.drew HB5W.out.drew
      obtain⟨-,-,s3⟩:=HC.out w5 HB5W.out
      have sc0:=s3.cell 0
      have sf0:=s3.frozen 0
      have sc1:=s3.cell 1
      have sf1:=s3.frozen 1
      have hR2:Blk ((w5.drew.setCell ⟨w.heap.size+1+1,0,none⟩ (.slice ra rn rc)).setCell ⟨w.heap.size+1+1,1,none⟩ (.slice ea en ec)) (w.heap.size+1+1) 209 #[.slice ra rn rc,.slice ea en ec]:=(s2.set 0 (.slice ra rn rc)).set 1 (.slice ea en ec)
      go_upto_region 20 with fail
      refine wp_region_held_drew (S:=fun x=>Below w.heap.size w x) (by kernel_rfl) (HB5.out.drew) (fun hHeldf=> ?_)
      refine aab (i:=0) (some 101) (v:= ?vf0) rfl rfl (by kernel_rfl) (by kernel_rfl) (by kernel_rfl) (fun _ _ _ h=>h) (Or.inl ⟨by kernel_rfl,?hyf0⟩) (by assumption) ?restf0
      case hyf0=>(intro x hSx;(try dsimp only at hSx);go_simp;first | done | with_reducible rfl)
      try simp only[Act.put,List.setIfInBounds_toArray,List.set_cons_zero,List.set_cons_succ]
      refine aab (i:=1) (some 102) (v:= ?vf1) rfl rfl (by kernel_rfl) (by kernel_rfl) (by kernel_rfl) (fun _ _ _ h=>h) (Or.inl ⟨by kernel_rfl,?hyf1⟩) (by assumption) ?restf1
      case hyf1=>(intro x hSx;(try dsimp only at hSx);go_simp;first | done | with_reducible rfl)
      try simp only[Act.put,List.setIfInBounds_toArray,List.set_cons_zero,List.set_cons_succ]
      refine aab (i:=2) (some 103) (v:= ?vf2) rfl rfl (by kernel_rfl) (by kernel_rfl) (by kernel_rfl) (fun _ _ _ h=>h) (Or.inl ⟨by kernel_rfl,?hyf2⟩) (by assumption) ?restf2
      case hyf2=>(intro x hSx;(try dsimp only at hSx);go_simp;first | done | with_reducible rfl)
      try simp only[Act.put,List.setIfInBounds_toArray,List.set_cons_zero,List.set_cons_succ]
      refine aab (i:=3) (some 104) (v:= ?vf3) rfl rfl (by kernel_rfl) (by kernel_rfl) (by kernel_rfl) (fun _ _ _ h=>h) (Or.inl ⟨by kernel_rfl,?hyf3⟩) (by assumption) ?restf3
      case hyf3=>(intro x hSx;(try dsimp only at hSx);go_simp;first | done | with_reducible rfl)
      try simp only[Act.put,List.setIfInBounds_toArray,List.set_cons_zero,List.set_cons_succ]
      refine aab (i:=4) (some 105) (v:= ?vf4) rfl rfl (by kernel_rfl) (by kernel_rfl) (by kernel_rfl) (fun _ _ _ h=>h) (Or.inl ⟨by kernel_rfl,?hyf4⟩) (by assumption) ?restf4
      case hyf4=>(intro x hSx;(try dsimp only at hSx);go_simp;first | done | with_reducible rfl)
      try simp only[Act.put,List.setIfInBounds_toArray,List.set_cons_zero,List.set_cons_succ]
      refine aab (i:=5) (some 106) (v:= ?vf5) rfl rfl (by kernel_rfl) (by kernel_rfl) (by kernel_rfl) (fun _ _ _ h=>h) (Or.inl ⟨by kernel_rfl,?hyf5⟩) (by assumption) ?restf5
      case hyf5=>(intro x hSx;(try dsimp only at hSx);go_simp;first | done | with_reducible rfl)
      try simp only[Act.put,List.setIfInBounds_toArray,List.set_cons_zero,List.set_cons_succ]
      refine wpAnyH_ready (rs:=[6]) (by kernel_rfl) (by simp) ?_
      refine AllReadyH.cons rfl (fun K hK=> ?_) AllReadyH.nil
      go_simp
      refine hK.out _ _ ((hHeldf.setCell (p:=⟨w.heap.size+1+1,0,none⟩) (show w.heap.size≤w.heap.size+1+1 by omega) _).setCell (p:=⟨w.heap.size+1+1,1,none⟩) (show w.heap.size≤w.heap.size+1+1 by omega) _) (fun hHeldf6=> ?_)
      clear hK K
      try simp only[Act.put,List.setIfInBounds_toArray,List.set_cons_zero,List.set_cons_succ]
      refine aab (i:=7) (some 7) (v:= ?vf7) rfl rfl (by kernel_rfl) (by kernel_rfl) (by kernel_rfl) (fun _ _ _ h=>h) (Or.inl ⟨by kernel_rfl,?hyf7⟩) (by assumption) ?restf7
      case hyf7=>(intro x hSx;(try dsimp only at hSx);go_simp;first | done | with_reducible rfl)
      try simp only[Act.put,List.setIfInBounds_toArray,List.set_cons_zero,List.set_cons_succ]
      refine wpAnyH_done (by kernel_rfl) ?_ _
      have HE:Hid _:=hHeldf6
      have hEw:Hid (Below w.heap.size w ((w5.drew.setCell ⟨w.heap.size+1+1,0,none⟩ (.slice ra rn rc)).setCell ⟨w.heap.size+1+1,1,none⟩ (.slice ea en ec))):=HE.out
      have hcar: ∀k,k≠w.heap.size+1+1→((w5.drew.setCell ⟨w.heap.size+1+1,0,none⟩ (.slice ra rn rc)).setCell ⟨w.heap.size+1+1,1,none⟩ (.slice ea en ec)).heap[k]? =w5.heap[k]?:=fun k hk=>(Below.heap_setCell _ _ _ k hk).trans (Below.heap_setCell _ _ _ k hk)
      have HCAR:Hid _:=hcar
      clear hcar HE
      go_wp2_with fail
      refine bodyPost_ret (afl hR2 rfl rfl) rfl ?_
      rw[HGE.out,HST.out]
      refine⟨hEw.out,_,_,_,rfl,?_,.inl ?_,?_⟩
      ·exact aca (aae HOR5.out HBW.out.size) fun q hq=>HCAR.out q (by have h1:=(aah HOR5.out hq).1;have:=HWZ.out;omega)
      ·exact HE5.out.below ((Below.refl w.heap.size w5).drew.setCell (p:=⟨w.heap.size+1+1,0,none⟩) (show w.heap.size≤w.heap.size+1+1 by omega) (.slice ra rn rc)|>.setCell (p:=⟨w.heap.size+1+1,1,none⟩) (show w.heap.size≤w.heap.size+1+1 by omega) (.slice ea en ec)) hn₀
      ·have:=LeftIs.of (HXD.out _ hEw.out)
       rw[HDL.out] at this
       show LeftIs _ _ ([]++List.drop i xs)
       rw[List.nil_append]
       exact this
     ·have HSN:Hid (sn=stay.length):=HLL.out.2.2.1
      have hsn:stay.length≤4000008∧m-i≤4000000:=by have:=HLL.out;omega
      have tz:((sn:Int)==0)=false:=by simp;omega
      have tz2:(sn==0)=false:=by simp;omega
      have HI:Hid (Ints w5.heap.size w5 (.slice (some ⟨b,o3,none⟩) (m-i) (c2-i)) (xs.drop i)):=by
       have:=(HXD.out w5 HB5.out).ints
       rw[HDL.out] at this
       exact this
      have HNE:Hid (stay≠ []):=fun e=>by have:=HSN.out;rw[e] at this;exact hs0 this
      have hWz:W.heap.size≤w5.heap.size:=HB5W.out.size
      have hlap:stay.length+(xs.drop i).length≤1099511627776:=by rw[HDL.out];omega
      clear hs0 HLL
      go_wp2_with (at_builtin;refine abl rfl _ _ rfl W.heap.size _ stay rfl HOS5.out (xs.drop i) _ _ rfl HI.out hlap hWz ?_;intro a7 c7 w7 hown7 hb7 hgr7 hat7;have HO7:Hid _:=hown7;have HG7:Hid _:=hgr7;have HB7:Hid _:=hb7;clear hown7 hgr7 hb7 hat7;obtain⟨-,-,s2⟩:=HC.out w7 (HB5W.out.trans HB7.out);have sc0:=s2.cell 0;have sf0:=s2.frozen 0;have sc1:=s2.cell 1;have sf1:=s2.frozen 1)
      have hR2:Blk ((w7.setCell ⟨w.heap.size+1+1,0,none⟩ (.slice ra rn rc)).setCell ⟨w.heap.size+1+1,1,none⟩ (.slice ea en ec)) (w.heap.size+1+1) 209 #[.slice ra rn rc,.slice ea en ec]:=(s2.set 0 (.slice ra rn rc)).set 1 (.slice ea en ec)
      refine bodyPost_ret (afl hR2 rfl rfl) rfl ?_
      have hcar: ∀k,k≠w.heap.size+1+1→((w7.setCell ⟨w.heap.size+1+1,0,none⟩ (.slice ra rn rc)).setCell ⟨w.heap.size+1+1,1,none⟩ (.slice ea en ec)).heap[k]? =w7.heap[k]?:=fun k hk=>(Below.heap_setCell _ _ _ k hk).trans (Below.heap_setCell _ _ _ k hk)
      have hE7:Below w.heap.size w w7:=HB5.out.trans (HB7.out.mono HBW.out.size)
      have hEw:Below w.heap.size w ((w7.setCell ⟨w.heap.size+1+1,0,none⟩ (.slice ra rn rc)).setCell ⟨w.heap.size+1+1,1,none⟩ (.slice ea en ec)):=(hE7.setCell (p:=⟨w.heap.size+1+1,0,none⟩) (show w.heap.size≤w.heap.size+1+1 by omega) _).setCell (p:=⟨w.heap.size+1+1,1,none⟩) (show w.heap.size≤w.heap.size+1+1 by omega) _
      have hzW:=HWZ.out
      rw[HGE.out]
      refine⟨hEw,_,_,_,rfl,?_,?_,?_⟩
      ·have h7:=aa0 HOR5.out HG7.out HAP.out
       exact aca (aae h7 HBW.out.size) fun q hq=>hcar q (by have h1:=(aah h7 hq).1;omega)
      ·have h57:Below w.heap.size w5 ((w7.setCell ⟨w.heap.size+1+1,0,none⟩ (.slice ra rn rc)).setCell ⟨w.heap.size+1+1,1,none⟩ (.slice ea en ec)):=((HB7.out.mono HBW.out.size).setCell (p:=⟨w.heap.size+1+1,0,none⟩) (show w.heap.size≤w.heap.size+1+1 by omega) _).setCell (p:=⟨w.heap.size+1+1,1,none⟩) (show w.heap.size≤w.heap.size+1+1 by omega) _
       exact .inl (HE5.out.below h57 hn₀)
      ·have h8:IOwn ((w7.setCell ⟨w.heap.size+1+1,0,none⟩ (.slice ra rn rc)).setCell ⟨w.heap.size+1+1,1,none⟩ (.slice ea en ec)) W.heap.size (.slice a7 (stay.length+(xs.drop i).length) c7) (stay++xs.drop i):=aca HO7.out fun q hq=>hcar q (by have h1:=(aah HO7.out hq).1;omega)
       rw[List.length_drop] at h8
       exact LeftIs.own h8 (fun e=>HNE.out (List.append_eq_nil_iff.1 e).1)
end Go.Proofs.YtpfkoldfbecdlaaGreatDoor
