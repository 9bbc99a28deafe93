/- What dovetailref06.Print does (a contract; nothing is claimed here). -/
import Derived.Test.YtpfkoldfbecdlaaGreatDoorRefQ
import Derived.Test.YtpfkoldfbecdlaaGreatDoorTRefY
namespace Go.Proofs.YtpfkoldfbecdlaaGreatDoor
open Go.RowKit Go.Vf Go.Maps
def ad6 (l:List Ent)(k:Nat):List Int:=if k=0 then [] else ((l[k-1]?).map Prod.fst).getD []
theorem am3 (l:List Ent):ad6 l 0=[]:=rfl
theorem am4 (l:List Ent)(k:Nat)(h:k<l.length):ad6 l (k+1)=l[k].1:=by
 simp[ad6,h]
theorem aw6 (l:List Ent)(k:Nat)(h:k<l.length):abg (l.drop k) (ad6 l k)=if a34 l[k]=true then (if 0≤aag (ad6 l k) l[k].1 then false else abg (l.drop (k+1)) (ad6 l (k+1))) else false:=by
 rw[List.drop_eq_getElem_cons h,am4 l k h]
 have e: ∀(x:Ent) (r:List Ent) (ab:List Int),abg (x::r) ab=if ac9 x.1=true then if an1 x.2=true then if 0≤aag ab x.1 then false else abg r x.1 else false else false:=fun _ _ _=>rfl
 rw[e]
 unfold a34
 generalize abg (l.drop (k+1)) l[k].1=C
 cases h1:ac9 l[k].1<;>cases h2:an1 l[k].2<;>simp
theorem avc (l:List Ent)(k:Nat)(h:k<l.length):acx (l.take (k+1))=acx (l.take k)++(if 0<k then [10] else [])++agu l[k]:=by
 cases l with
 | nil=>simp at h
 | cons x r=>
  cases k with
  | zero=>simp[acx]
  | succ k=>
   have h':k<r.length:=by simpa using h
   rw[show (x::r).take (k+1+1)=x::r.take (k+1) from rfl,show(x::r).take (k+1)=x::r.take k from rfl,if_pos (Nat.succ_pos k)]
   simp only[acx,List.getElem_cons_succ]
   rw[List.take_succ_eq_append_getElem h',List.flatMap_append]
   simp
theorem aw1 {x:Ent}(h:EntOk x):(agu x).length≤10000:=by
 obtain⟨us,hus,hne,hu8,hum⟩:=akg h.row
 have h1:=aia us hum
 have h2:=adp x.2 (fun e he=>ais (List.all_eq_true.1 h.ok e he))
 have h3:=h.n1
 have h4:ax8 x.1=aav us:=by
  unfold ax8
  rw[show x.1=us.map (fun q:Nat=>(q:Int)) from hus,List.map_map,show(Int.toNat ∘ fun q:Nat=>(q:Int))=id from by funext q;simp]
  simp
 unfold agu
 rw[h4]
 simp only[List.length_append,List.length_cons]
 omega
theorem acq {tmps:Array Value}{w:World}{a b:Value}(t2:tmps[2]?.getD undef=a)(t3:tmps[3]?.getD undef=b):(results Tryz.f26 tmps).run Tryz.prog w=.ok (.tuple #[a,b]) w:=by
 simp[results,Tryz.results26,go_sem,t2,t3]
set_option maxHeartbeats 8000000 in
set_option maxRecDepth 20000 in
theorem avp (l:List Ent)(hll:l.length≤4611686018427387904)(hpl: ∀x∈l,x.1.length≤4611686018427387904∧x.2.length≤4611686018427387904)(v:Value)(n₀:Nat)(w:World)(hn₀:n₀≤w.heap.size)(hin:EIn n₀ w v l):
  Calls Tryz.prog 26 #[v] w fun e w'=>e=ahw (aez l)∧Below w.heap.size w w':=by
 obtain⟨a,cap,rfl⟩:=hin.val
 obtain⟨G,hG⟩: ∃G,G=ahw (aez l):=⟨_,rfl⟩
 rw[←hG]
 have HG:Hid (G=ahw (aez l)):=hG
 have HIN:Hid (EIn n₀ w (.slice a l.length cap) l):=hin
 have HPL:Hid (∀x∈l,x.1.length≤4611686018427387904∧x.2.length≤4611686018427387904):=hpl
 obtain⟨ln,hln⟩: ∃ln,l.length=ln:=⟨_,rfl⟩
 have HLN:Hid (l.length=ln):=hln
 rw[hln] at hll⊢
 clear hG hin hpl hln
 by_cases hlong:4096<ln
 ·have t1:decide ((4096:Int)<(ln:Int))=true:=decide_eq_true (by omega)
  have hg:G=.returned (.tuple #[.string ⟨#[]⟩,.int .i64 2]):=by
   rw[HG.out]
   unfold aez
   rw[if_pos (by rw[HLN.out];exact hlong)]
   rfl
  subst hg
  go_enter Tryz.func26,Tryz.ntmps26
  go_wp2
  refine bodyPost_ret (acq rfl rfl) rfl ?_
  exact⟨rfl,Below.refl _ _⟩
 have t1:decide ((4096:Int)<(ln:Int))=false:=decide_eq_false (by omega)
 have HRF:Hid (abg l []=false→G=.returned (.tuple #[.string ⟨#[]⟩,.int .i64 1])):=fun h=>by
  rw[HG.out]
  unfold aez
  rw[if_neg (by rw[HLN.out];exact hlong),h]
  rfl
 have HRT:Hid (abg l []=true→G=if 65536<(acx l).length then .returned (.tuple #[.string ⟨#[]⟩,.int .i64 2]) else .returned (.tuple #[.string (bsz (acx l)),.int .i64 0])):=fun h=>by
  rw[HG.out]
  unfold aez
  rw[if_neg (by rw[HLN.out];exact hlong),if_pos h,ako]
  split
  ·rename_i h2
   split at h2
   ·rename_i h3
    rw[if_pos h3]
    rfl
   ·cases h2
  ·rename_i t h2
   split at h2
   ·cases h2
   ·rename_i h3
    cases h2
    rw[if_neg h3]
    rfl
 clear HG
 go_enter Tryz.func26,Tryz.ntmps26
 go_wp2
 go_loopw [4] (fun i wr=> ∃k:Nat,k≤ln∧i=.int .i64 (k:Int)∧Hid (abg l []=abg (l.drop k) (ad6 l k))∧Hid (Below w.heap.size w wr)) (fun i _=>ln-(intOf i).toNat)
 case atStart=>exact⟨0,Nat.zero_le _,rfl,by show _=_;rw[am3];rfl,Below.refl _ _⟩
 case round=>
  obtain⟨k,hk,rfl,HC,HB⟩:=hrel
  by_cases hlt:k<ln
  ·have hkl:k<l.length:=by rw[HLN.out];exact hlt
   have tl:decide ((k:Int)<(ln:Int))=true:=decide_eq_true (by omega)
   obtain⟨b,off,hab,pa,pc,ea,ec,c0,c1,hip,hie⟩:=HIN.out.at hkl
   subst hab
   have hbn:b<n₀:=by
    rcases HIN.out with ⟨a',cap',e,e2⟩ | ⟨b',off',cap',e,hb',_⟩
    ·rw[e2] at hkl;exact absurd hkl (by simp)
    ·cases e;exact hb'
   have hpp:=HPL.out _ (List.getElem_mem hkl)
   have hst:=aw6 l k hkl
   have hprev:0<k→ ∃pa0 pc0,w.cell? ⟨b,off+(k-1)*2,none⟩=some (.slice pa0 (ad6 l k).length pc0)∧Ints n₀ w (.slice pa0 (ad6 l k).length pc0) (ad6 l k)∧(ad6 l k).length≤4611686018427387904:=fun h0=>by
    have hk1:k-1<l.length:=by omega
    obtain⟨b',off',hab',pa',pc',ea',ec',c0',c1',hip',_⟩:=HIN.out.at hk1
    have he:ad6 l k=(l[k-1]).1:=by
     have:=am4 l (k-1) hk1
     rwa [show k-1+1=k by omega] at this
    cases hab'
    exact⟨pa',pc',by rw[he];exact c0',by rw[he];exact hip',by rw[he];exact(HPL.out _ (List.getElem_mem hk1)).1⟩
   have HPV:Hid (0<k→ ∃pa0 pc0,w.cell? ⟨b,off+(k-1)*2,none⟩=some (.slice pa0 (ad6 l k).length pc0)∧Ints n₀ w (.slice pa0 (ad6 l k).length pc0) (ad6 l k)∧(ad6 l k).length≤4611686018427387904):=hprev
   obtain⟨x,hx⟩: ∃x,x=l[k]:=⟨_,rfl⟩
   have HX:Hid (x=l[k]'hkl):=hx
   rw[←hx] at c0 c1 hip hie hpp hst
   obtain⟨p,es⟩:=x
   dsimp only at c0 c1 hip hie hpp hst
   have HST:Hid (abg (l.drop k) (ad6 l k)=if a34 (p,es)=true then (if 0≤aag (ad6 l k) p then false else abg (l.drop (k+1)) (ad6 l (k+1))) else false):=hst
   obtain⟨EB,hEB⟩: ∃EB,EB=a34 (p,es):=⟨_,rfl⟩
   have HEB:Hid (EB=a34 (p,es)):=hEB
   have HMAY:Hid (∀x,Below w.heap.size w x→Calls Tryz.prog 72 #[.agg #[.slice pa p.length pc,.slice ea es.length ec]] x fun e w'=>e=.returned (.bool EB)∧Below x.heap.size x w'):=fun x hx=>by
    have:=ase p es hpp.1 hpp.2 n₀ pa pc ea ec x (Nat.le_trans hn₀ hx.size) (hip.below hx hn₀) (hie.below hx hn₀)
    rwa [←HEB.out] at this
   have HIP:Hid (Ints n₀ w (.slice pa p.length pc) p):=hip
   have HPP:Hid (p.length≤4611686018427387904):=hpp.1
   obtain⟨pn,hpn⟩: ∃pn,p.length=pn:=⟨_,rfl⟩
   obtain⟨en,hen⟩: ∃en,es.length=en:=⟨_,rfl⟩
   rw[hpn] at c0 HMAY HIP
   rw[hen] at c1 HMAY
   have HC0:Hid (∀x,Below w.heap.size w x→x.cell? ⟨b,off+k*2,none⟩=some (.slice pa pn pc)∧x.cell? ⟨b,off+k*2+1,none⟩=some (.slice ea en ec)):=fun x hx=>⟨(hx.cell (p:=⟨b,_,none⟩) (show b<w.heap.size by omega)).trans c0,(hx.cell (p:=⟨b,_,none⟩) (show b<w.heap.size by omega)).trans c1⟩
   clear c0 c1 hip hie hpp hst hprev hx hEB hpn hen
   cases EB with
   | false=>
    go_upto_region 6 with fail
    refine wp_region_held_drew (S:=fun x=>Below w.heap.size w x) (by kernel_rfl) (HB.out.drew) (fun hHelda=> ?_)
    refine aaa (i:=0) (some 16) (v:= ?va0) rfl rfl (by kernel_rfl) (by kernel_rfl) (by kernel_rfl) (fun _ _ _ h=>h) (Or.inl ⟨by kernel_rfl,?hya0⟩) (by assumption) ?resta0
    case hya0=>(intro x hSx;(try dsimp only at hSx);go_simp;first | done | with_reducible rfl)
    try simp only[Act.put,List.setIfInBounds_toArray,List.set_cons_zero,List.set_cons_succ]
    refine aaa (i:=1) (some 17) (v:= ?va1) rfl rfl (by kernel_rfl) (by kernel_rfl) (by kernel_rfl) (fun _ _ _ h=>h) (Or.inl ⟨by kernel_rfl,?hya1⟩) (by assumption) ?resta1
    case hya1=>(intro x hSx;(try dsimp only at hSx);go_simp;first | done | with_reducible rfl)
    try simp only[Act.put,List.setIfInBounds_toArray,List.set_cons_zero,List.set_cons_succ]
    refine aaa (i:=2) (some 18) (v:= ?va2) rfl rfl (by kernel_rfl) (by kernel_rfl) (by kernel_rfl) (fun _ _ _ h=>h) (Or.inl ⟨by kernel_rfl,?hya2⟩) (by assumption) ?resta2
    case hya2=>(intro x hSx;(try dsimp only at hSx);go_simp;first | done | with_reducible rfl)
    try simp only[Act.put,List.setIfInBounds_toArray,List.set_cons_zero,List.set_cons_succ]
    refine aaa (i:=3) (some 19) (v:= ?va3) rfl rfl (by kernel_rfl) (by kernel_rfl) (by kernel_rfl) (fun _ _ _ h=>h) (Or.inl ⟨by kernel_rfl,?hya3⟩) (by assumption) ?resta3
    case hya3=>(intro x hSx;(try dsimp only at hSx);obtain⟨z0,z1⟩:=HC0.out x hSx;go_simp;first | done | with_reducible rfl)
    try simp only[Act.put,List.setIfInBounds_toArray,List.set_cons_zero,List.set_cons_succ]
    refine wpAnyH_ready (rs:=[4]) (by kernel_rfl) (by simp) ?_
    refine AllReadyH.cons rfl (fun K hK=> ?_) AllReadyH.nil
    go_simp
    go_wp2_with (go_at_call 72;refine(HMAY.out _ hHelda).mono ?_;rintro e ya4 ⟨rfl,hqa4⟩)
    refine hK.out _ _ (hHelda.trans (hqa4.mono hHelda.size)) (fun hHelda4=> ?_)
    clear hK K
    try simp only[Act.put,List.setIfInBounds_toArray,List.set_cons_zero,List.set_cons_succ]
    refine aaa (i:=5) (some 21) (v:=.bool true) rfl rfl (by kernel_rfl) (by kernel_rfl) (by kernel_rfl) (fun _ _ _ h=>h) (Or.inl ⟨by kernel_rfl,?hya5⟩) (by assumption) ?resta5
    case hya5=>(intro x hSx;(try dsimp only at hSx);go_simp;first | done | with_reducible rfl)
    try simp only[Act.put,List.setIfInBounds_toArray,List.set_cons_zero,List.set_cons_succ]
    refine aaa (i:=6) (some 22) (v:=.bool true) rfl rfl (by kernel_rfl) (by kernel_rfl) (by kernel_rfl) (fun _ _ _ h=>h) (Or.inl ⟨by kernel_rfl,?hya6⟩) (by assumption) ?resta6
    case hya6=>(intro x hSx;(try dsimp only at hSx);go_simp;first | done | with_reducible rfl)
    try simp only[Act.put,List.setIfInBounds_toArray,List.set_cons_zero,List.set_cons_succ]
    refine aaa (i:=7) (some 23) (v:=undef) rfl rfl (by kernel_rfl) (by kernel_rfl) (by kernel_rfl) (fun _ _ _ h=>h) (Or.inr ⟨by kernel_rfl,rfl⟩) (by assumption) ?_
    try simp only[Act.put,List.setIfInBounds_toArray,List.set_cons_zero,List.set_cons_succ]
    refine aaa (i:=8) (some 24) (v:=undef) rfl rfl (by kernel_rfl) (by kernel_rfl) (by kernel_rfl) (fun _ _ _ h=>h) (Or.inr ⟨by kernel_rfl,rfl⟩) (by assumption) ?_
    try simp only[Act.put,List.setIfInBounds_toArray,List.set_cons_zero,List.set_cons_succ]
    refine aaa (i:=9) (some 25) (v:=undef) rfl rfl (by kernel_rfl) (by kernel_rfl) (by kernel_rfl) (fun _ _ _ h=>h) (Or.inr ⟨by kernel_rfl,rfl⟩) (by assumption) ?_
    try simp only[Act.put,List.setIfInBounds_toArray,List.set_cons_zero,List.set_cons_succ]
    refine aaa (i:=10) (some 26) (v:=undef) rfl rfl (by kernel_rfl) (by kernel_rfl) (by kernel_rfl) (fun _ _ _ h=>h) (Or.inr ⟨by kernel_rfl,rfl⟩) (by assumption) ?_
    try simp only[Act.put,List.setIfInBounds_toArray,List.set_cons_zero,List.set_cons_succ]
    refine aaa (i:=11) (some 27) (v:=undef) rfl rfl (by kernel_rfl) (by kernel_rfl) (by kernel_rfl) (fun _ _ _ h=>h) (Or.inr ⟨by kernel_rfl,rfl⟩) (by assumption) ?_
    try simp only[Act.put,List.setIfInBounds_toArray,List.set_cons_zero,List.set_cons_succ]
    refine aaa (i:=12) (some 28) (v:=undef) rfl rfl (by kernel_rfl) (by kernel_rfl) (by kernel_rfl) (fun _ _ _ h=>h) (Or.inr ⟨by kernel_rfl,rfl⟩) (by assumption) ?_
    try simp only[Act.put,List.setIfInBounds_toArray,List.set_cons_zero,List.set_cons_succ]
    refine aaa (i:=13) (some 29) (v:=undef) rfl rfl (by kernel_rfl) (by kernel_rfl) (by kernel_rfl) (fun _ _ _ h=>h) (Or.inr ⟨by kernel_rfl,rfl⟩) (by assumption) ?_
    try simp only[Act.put,List.setIfInBounds_toArray,List.set_cons_zero,List.set_cons_succ]
    refine aaa (i:=14) (some 30) (v:=undef) rfl rfl (by kernel_rfl) (by kernel_rfl) (by kernel_rfl) (fun _ _ _ h=>h) (Or.inr ⟨by kernel_rfl,rfl⟩) (by assumption) ?_
    try simp only[Act.put,List.setIfInBounds_toArray,List.set_cons_zero,List.set_cons_succ]
    refine aaa (i:=15) (some 31) (v:=undef) rfl rfl (by kernel_rfl) (by kernel_rfl) (by kernel_rfl) (fun _ _ _ h=>h) (Or.inr ⟨by kernel_rfl,rfl⟩) (by assumption) ?_
    try simp only[Act.put,List.setIfInBounds_toArray,List.set_cons_zero,List.set_cons_succ]
    refine aaa (i:=16) (some 32) (v:=undef) rfl rfl (by kernel_rfl) (by kernel_rfl) (by kernel_rfl) (fun _ _ _ h=>h) (Or.inr ⟨by kernel_rfl,rfl⟩) (by assumption) ?_
    try simp only[Act.put,List.setIfInBounds_toArray,List.set_cons_zero,List.set_cons_succ]
    refine aaa (i:=17) (some 33) (v:=undef) rfl rfl (by kernel_rfl) (by kernel_rfl) (by kernel_rfl) (fun _ _ _ h=>h) (Or.inr ⟨by kernel_rfl,rfl⟩) (by assumption) ?_
    try simp only[Act.put,List.setIfInBounds_toArray,List.set_cons_zero,List.set_cons_succ]
    refine aaa (i:=18) (some 34) (v:=undef) rfl rfl (by kernel_rfl) (by kernel_rfl) (by kernel_rfl) (fun _ _ _ h=>h) (Or.inr ⟨by kernel_rfl,rfl⟩) (by assumption) ?_
    try simp only[Act.put,List.setIfInBounds_toArray,List.set_cons_zero,List.set_cons_succ]
    refine aaa (i:=19) (some 35) (v:=undef) rfl rfl (by kernel_rfl) (by kernel_rfl) (by kernel_rfl) (fun _ _ _ h=>h) (Or.inr ⟨by kernel_rfl,rfl⟩) (by assumption) ?_
    try simp only[Act.put,List.setIfInBounds_toArray,List.set_cons_zero,List.set_cons_succ]
    refine aaa (i:=20) (some 36) (v:=undef) rfl rfl (by kernel_rfl) (by kernel_rfl) (by kernel_rfl) (fun _ _ _ h=>h) (Or.inr ⟨by kernel_rfl,rfl⟩) (by assumption) ?_
    try simp only[Act.put,List.setIfInBounds_toArray,List.set_cons_zero,List.set_cons_succ]
    refine aaa (i:=21) (some 37) (v:=undef) rfl rfl (by kernel_rfl) (by kernel_rfl) (by kernel_rfl) (fun _ _ _ h=>h) (Or.inr ⟨by kernel_rfl,rfl⟩) (by assumption) ?_
    try simp only[Act.put,List.setIfInBounds_toArray,List.set_cons_zero,List.set_cons_succ]
    refine aaa (i:=22) (some 38) (v:=undef) rfl rfl (by kernel_rfl) (by kernel_rfl) (by kernel_rfl) (fun _ _ _ h=>h) (Or.inr ⟨by kernel_rfl,rfl⟩) (by assumption) ?_
    try simp only[Act.put,List.setIfInBounds_toArray,List.set_cons_zero,List.set_cons_succ]
    refine aaa (i:=23) (some 39) (v:=undef) rfl rfl (by kernel_rfl) (by kernel_rfl) (by kernel_rfl) (fun _ _ _ h=>h) (Or.inr ⟨by kernel_rfl,rfl⟩) (by assumption) ?_
    try simp only[Act.put,List.setIfInBounds_toArray,List.set_cons_zero,List.set_cons_succ]
    refine aaa (i:=24) (some 40) (v:=.bool true) rfl rfl (by kernel_rfl) (by kernel_rfl) (by kernel_rfl) (fun _ _ _ h=>h) (Or.inl ⟨by kernel_rfl,?hya24⟩) (by assumption) ?resta24
    case hya24=>(intro x hSx;(try dsimp only at hSx);go_simp;first | done | with_reducible rfl)
    try simp only[Act.put,List.setIfInBounds_toArray,List.set_cons_zero,List.set_cons_succ]
    refine wpAnyH_done (by kernel_rfl) ?_ _
    have HBy:=hHelda4
    have hf:abg l []=false:=by
     rw[HC.out,HST.out,if_neg (by rw[←HEB.out];decide)]
    have hg:G=.returned (.tuple #[.string ⟨#[]⟩,.int .i64 1]):=HRF.out hf
    subst hg
    clear HC HST HEB HMAY HC0 HX HPV hf
    go_wp2
    refine bodyPost_ret (acq rfl rfl) rfl ?_
    exact⟨rfl,HBy⟩
   | true=>
    by_cases hk0:k=0
    ·subst hk0
     have hrow:ac9 p=true:=by
      have h:=HEB.out.symm
      unfold a34 at h
      simp only[Bool.and_eq_true] at h
      exact h.1
     have HC3:Hid (abg l []=abg (l.drop (0+1)) (ad6 l (0+1))):=by
      show _=_
      have h:=arn hrow
      rw[HC.out,HST.out,if_pos HEB.out.symm,am3,if_neg (by omega)]
     have HCZ:Hid (∀x,Below w.heap.size w x→x.cell? ⟨b,off,none⟩=some (.slice pa pn pc)∧x.cell? ⟨b,off+1,none⟩=some (.slice ea en ec)):=fun x hx=>by
      have:=HC0.out x hx
      simpa using this
     clear hrow
     go_upto_region 6 with fail
     refine wp_region_held_drew (S:=fun x=>Below w.heap.size w x) (by kernel_rfl) (HB.out.drew) (fun hHeldb=> ?_)
     refine aaa (i:=0) (some 16) (v:= ?vb0) rfl rfl (by kernel_rfl) (by kernel_rfl) (by kernel_rfl) (fun _ _ _ h=>h) (Or.inl ⟨by kernel_rfl,?hyb0⟩) (by assumption) ?restb0
     case hyb0=>(intro x hSx;(try dsimp only at hSx);go_simp;first | done | with_reducible rfl)
     try simp only[Act.put,List.setIfInBounds_toArray,List.set_cons_zero,List.set_cons_succ]
     refine aaa (i:=1) (some 17) (v:= ?vb1) rfl rfl (by kernel_rfl) (by kernel_rfl) (by kernel_rfl) (fun _ _ _ h=>h) (Or.inl ⟨by kernel_rfl,?hyb1⟩) (by assumption) ?restb1
     case hyb1=>(intro x hSx;(try dsimp only at hSx);go_simp;first | done | with_reducible rfl)
     try simp only[Act.put,List.setIfInBounds_toArray,List.set_cons_zero,List.set_cons_succ]
     refine aaa (i:=2) (some 18) (v:= ?vb2) rfl rfl (by kernel_rfl) (by kernel_rfl) (by kernel_rfl) (fun _ _ _ h=>h) (Or.inl ⟨by kernel_rfl,?hyb2⟩) (by assumption) ?restb2
     case hyb2=>(intro x hSx;(try dsimp only at hSx);go_simp;first | done | with_reducible rfl)
     try simp only[Act.put,List.setIfInBounds_toArray,List.set_cons_zero,List.set_cons_succ]
     refine aaa (i:=3) (some 19) (v:= ?vb3) rfl rfl (by kernel_rfl) (by kernel_rfl) (by kernel_rfl) (fun _ _ _ h=>h) (Or.inl ⟨by kernel_rfl,?hyb3⟩) (by assumption) ?restb3
     case hyb3=>(intro x hSx;(try dsimp only at hSx);obtain⟨z0,z1⟩:=HCZ.out x hSx;go_simp;first | done | with_reducible rfl)
     try simp only[Act.put,List.setIfInBounds_toArray,List.set_cons_zero,List.set_cons_succ]
     refine wpAnyH_ready (rs:=[4]) (by kernel_rfl) (by simp) ?_
     refine AllReadyH.cons rfl (fun K hK=> ?_) AllReadyH.nil
     go_simp
     go_wp2_with (go_at_call 72;refine(HMAY.out _ hHeldb).mono ?_;rintro e yb4 ⟨rfl,hqb4⟩)
     refine hK.out _ _ (hHeldb.trans (hqb4.mono hHeldb.size)) (fun hHeldb4=> ?_)
     clear hK K
     try simp only[Act.put,List.setIfInBounds_toArray,List.set_cons_zero,List.set_cons_succ]
     refine aaa (i:=5) (some 21) (v:=.bool false) rfl rfl (by kernel_rfl) (by kernel_rfl) (by kernel_rfl) (fun _ _ _ h=>h) (Or.inl ⟨by kernel_rfl,?hyb5⟩) (by assumption) ?restb5
     case hyb5=>(intro x hSx;(try dsimp only at hSx);go_simp;first | done | with_reducible rfl)
     try simp only[Act.put,List.setIfInBounds_toArray,List.set_cons_zero,List.set_cons_succ]
     refine aaa (i:=6) (some 22) (v:=.bool false) rfl rfl (by kernel_rfl) (by kernel_rfl) (by kernel_rfl) (fun _ _ _ h=>h) (Or.inl ⟨by kernel_rfl,?hyb6⟩) (by assumption) ?restb6
     case hyb6=>(intro x hSx;(try dsimp only at hSx);go_simp;first | done | with_reducible rfl)
     try simp only[Act.put,List.setIfInBounds_toArray,List.set_cons_zero,List.set_cons_succ]
     refine aaa (i:=7) (some 23) (v:= ?vb7) rfl rfl (by kernel_rfl) (by kernel_rfl) (by kernel_rfl) (fun _ _ _ h=>h) (Or.inl ⟨by kernel_rfl,?hyb7⟩) (by assumption) ?restb7
     case hyb7=>(intro x hSx;(try dsimp only at hSx);go_simp;first | done | with_reducible rfl)
     try simp only[Act.put,List.setIfInBounds_toArray,List.set_cons_zero,List.set_cons_succ]
     refine aaa (i:=8) (some 24) (v:=.bool false) rfl rfl (by kernel_rfl) (by kernel_rfl) (by kernel_rfl) (fun _ _ _ h=>h) (Or.inl ⟨by kernel_rfl,?hyb8⟩) (by assumption) ?restb8
     case hyb8=>(intro x hSx;(try dsimp only at hSx);go_simp;first | done | with_reducible rfl)
     try simp only[Act.put,List.setIfInBounds_toArray,List.set_cons_zero,List.set_cons_succ]
     refine aaa (i:=9) (some 25) (v:=.bool false) rfl rfl (by kernel_rfl) (by kernel_rfl) (by kernel_rfl) (fun _ _ _ h=>h) (Or.inl ⟨by kernel_rfl,?hyb9⟩) (by assumption) ?restb9
     case hyb9=>(intro x hSx;(try dsimp only at hSx);go_simp;first | done | with_reducible rfl)
     try simp only[Act.put,List.setIfInBounds_toArray,List.set_cons_zero,List.set_cons_succ]
     refine aaa (i:=10) (some 26) (v:=undef) rfl rfl (by kernel_rfl) (by kernel_rfl) (by kernel_rfl) (fun _ _ _ h=>h) (Or.inr ⟨by kernel_rfl,rfl⟩) (by assumption) ?_
     try simp only[Act.put,List.setIfInBounds_toArray,List.set_cons_zero,List.set_cons_succ]
     refine aaa (i:=11) (some 27) (v:=undef) rfl rfl (by kernel_rfl) (by kernel_rfl) (by kernel_rfl) (fun _ _ _ h=>h) (Or.inr ⟨by kernel_rfl,rfl⟩) (by assumption) ?_
     try simp only[Act.put,List.setIfInBounds_toArray,List.set_cons_zero,List.set_cons_succ]
     refine aaa (i:=12) (some 28) (v:=undef) rfl rfl (by kernel_rfl) (by kernel_rfl) (by kernel_rfl) (fun _ _ _ h=>h) (Or.inr ⟨by kernel_rfl,rfl⟩) (by assumption) ?_
     try simp only[Act.put,List.setIfInBounds_toArray,List.set_cons_zero,List.set_cons_succ]
     refine aaa (i:=13) (some 29) (v:=undef) rfl rfl (by kernel_rfl) (by kernel_rfl) (by kernel_rfl) (fun _ _ _ h=>h) (Or.inr ⟨by kernel_rfl,rfl⟩) (by assumption) ?_
     try simp only[Act.put,List.setIfInBounds_toArray,List.set_cons_zero,List.set_cons_succ]
     refine aaa (i:=14) (some 30) (v:=undef) rfl rfl (by kernel_rfl) (by kernel_rfl) (by kernel_rfl) (fun _ _ _ h=>h) (Or.inr ⟨by kernel_rfl,rfl⟩) (by assumption) ?_
     try simp only[Act.put,List.setIfInBounds_toArray,List.set_cons_zero,List.set_cons_succ]
     refine aaa (i:=15) (some 31) (v:=undef) rfl rfl (by kernel_rfl) (by kernel_rfl) (by kernel_rfl) (fun _ _ _ h=>h) (Or.inr ⟨by kernel_rfl,rfl⟩) (by assumption) ?_
     try simp only[Act.put,List.setIfInBounds_toArray,List.set_cons_zero,List.set_cons_succ]
     refine aaa (i:=16) (some 32) (v:=undef) rfl rfl (by kernel_rfl) (by kernel_rfl) (by kernel_rfl) (fun _ _ _ h=>h) (Or.inr ⟨by kernel_rfl,rfl⟩) (by assumption) ?_
     try simp only[Act.put,List.setIfInBounds_toArray,List.set_cons_zero,List.set_cons_succ]
     refine aaa (i:=17) (some 33) (v:=undef) rfl rfl (by kernel_rfl) (by kernel_rfl) (by kernel_rfl) (fun _ _ _ h=>h) (Or.inr ⟨by kernel_rfl,rfl⟩) (by assumption) ?_
     try simp only[Act.put,List.setIfInBounds_toArray,List.set_cons_zero,List.set_cons_succ]
     refine aaa (i:=18) (some 34) (v:=undef) rfl rfl (by kernel_rfl) (by kernel_rfl) (by kernel_rfl) (fun _ _ _ h=>h) (Or.inr ⟨by kernel_rfl,rfl⟩) (by assumption) ?_
     try simp only[Act.put,List.setIfInBounds_toArray,List.set_cons_zero,List.set_cons_succ]
     refine aaa (i:=19) (some 35) (v:=undef) rfl rfl (by kernel_rfl) (by kernel_rfl) (by kernel_rfl) (fun _ _ _ h=>h) (Or.inr ⟨by kernel_rfl,rfl⟩) (by assumption) ?_
     try simp only[Act.put,List.setIfInBounds_toArray,List.set_cons_zero,List.set_cons_succ]
     refine aaa (i:=20) (some 36) (v:=undef) rfl rfl (by kernel_rfl) (by kernel_rfl) (by kernel_rfl) (fun _ _ _ h=>h) (Or.inr ⟨by kernel_rfl,rfl⟩) (by assumption) ?_
     try simp only[Act.put,List.setIfInBounds_toArray,List.set_cons_zero,List.set_cons_succ]
     refine aaa (i:=21) (some 37) (v:=undef) rfl rfl (by kernel_rfl) (by kernel_rfl) (by kernel_rfl) (fun _ _ _ h=>h) (Or.inr ⟨by kernel_rfl,rfl⟩) (by assumption) ?_
     try simp only[Act.put,List.setIfInBounds_toArray,List.set_cons_zero,List.set_cons_succ]
     refine aaa (i:=22) (some 38) (v:=undef) rfl rfl (by kernel_rfl) (by kernel_rfl) (by kernel_rfl) (fun _ _ _ h=>h) (Or.inr ⟨by kernel_rfl,rfl⟩) (by assumption) ?_
     try simp only[Act.put,List.setIfInBounds_toArray,List.set_cons_zero,List.set_cons_succ]
     refine aaa (i:=23) (some 39) (v:=.bool false) rfl rfl (by kernel_rfl) (by kernel_rfl) (by kernel_rfl) (fun _ _ _ h=>h) (Or.inl ⟨by kernel_rfl,?hyb23⟩) (by assumption) ?restb23
     case hyb23=>(intro x hSx;(try dsimp only at hSx);go_simp;first | done | with_reducible rfl)
     try simp only[Act.put,List.setIfInBounds_toArray,List.set_cons_zero,List.set_cons_succ]
     refine aaa (i:=24) (some 40) (v:=.bool false) rfl rfl (by kernel_rfl) (by kernel_rfl) (by kernel_rfl) (fun _ _ _ h=>h) (Or.inl ⟨by kernel_rfl,?hyb24⟩) (by assumption) ?restb24
     case hyb24=>(intro x hSx;(try dsimp only at hSx);go_simp;first | done | with_reducible rfl)
     try simp only[Act.put,List.setIfInBounds_toArray,List.set_cons_zero,List.set_cons_succ]
     refine wpAnyH_done (by kernel_rfl) ?_ _
     have HBy:Hid (Below w.heap.size w _):=hHeldb4
     clear HC HST HEB HMAY HC0 HCZ HX HPV
     go_wp2
     go_roundw
     case rel=>exact⟨1,by omega,by simp,HC3,HBy⟩
     case measure=>simp only[intOf];omega
    ·obtain⟨pa0,pc0,cp,hip0,hl0⟩:=HPV.out (by omega)
     obtain⟨z,hz⟩: ∃z,z=aag (ad6 l k) p:=⟨_,rfl⟩
     have HZ:Hid (z=aag (ad6 l k) p):=hz
     have HPN:Hid (p.length=pn):=by
      show _=_
      rcases HIP.out with ⟨_,_,e,e2⟩ | ⟨_,_,_,e,_⟩
      ·cases e;rw[e2];rfl
      ·cases e;rfl
     have HAH:Hid (∀x,Below w.heap.size w x→Calls Tryz.prog 34 #[.slice pa0 (ad6 l k).length pc0,.slice pa pn pc] x fun e w'=>e=.returned (.int .i64 z)∧ ∃n,w'=x.drewN n):=fun x hx=>by
      have:=aro n₀ n₀ _ _ (ad6 l k) p x (hip0.below hx hn₀) (HIP.out.below hx hn₀) hl0 HPP.out
      rwa [←HZ.out] at this
     obtain⟨qn,hqn⟩: ∃qn,(ad6 l k).length=qn:=⟨_,rfl⟩
     rw[hqn] at cp HAH
     have HC2:Hid (∀x,Below w.heap.size w x→x.cell? ⟨b,off+k*2,none⟩=some (.slice pa pn pc)∧x.cell? ⟨b,off+k*2+1,none⟩=some (.slice ea en ec)∧x.cell? ⟨b,off+(k-1)*2,none⟩=some (.slice pa0 qn pc0)):=fun x hx=>⟨(HC0.out x hx).1,(HC0.out x hx).2,(hx.cell (p:=⟨b,_,none⟩) (show b<w.heap.size by omega)).trans cp⟩
     obtain⟨k1,hk1⟩: ∃k1,k=k1+1:=⟨k-1,by omega⟩
     rw[show k-1=k1 by omega] at HC2
     have tk:decide ((0:Int)<(k:Int))=true:=decide_eq_true (by omega)
     have te:IntKind.i64.wrap ((k:Int)-1)=(k1:Int):=by rw[IntWalk.i64_in _ ⟨by omega,by omega⟩];omega
     have hk1n:k1<ln:=by omega
     have hkp0:0<k:=by omega
     have tkn:decide (0<k)=true:=decide_eq_true hkp0
     have HK1:Hid (k=k1+1):=hk1
     obtain⟨gb,hgb⟩: ∃gb,decide ((0:Int)≤z)=gb:=⟨_,rfl⟩
     have HGB:Hid (decide ((0:Int)≤z)=gb):=hgb
     have hgb2:decide (z≥(0:Int))=gb:=hgb
     clear cp hip0 hl0 hz hqn hk1 hk0
     go_upto_region 6 with fail
     refine wp_region_held_drew (S:=fun x=>Below w.heap.size w x) (by kernel_rfl) (HB.out.drew) (fun hHeldc=> ?_)
     refine aaa (i:=0) (some 16) (v:= ?vc0) rfl rfl (by kernel_rfl) (by kernel_rfl) (by kernel_rfl) (fun _ _ _ h=>h) (Or.inl ⟨by kernel_rfl,?hyc0⟩) (by assumption) ?restc0
     case hyc0=>(intro x hSx;(try dsimp only at hSx);go_simp;first | done | with_reducible rfl)
     try simp only[Act.put,List.setIfInBounds_toArray,List.set_cons_zero,List.set_cons_succ]
     refine aaa (i:=1) (some 17) (v:= ?vc1) rfl rfl (by kernel_rfl) (by kernel_rfl) (by kernel_rfl) (fun _ _ _ h=>h) (Or.inl ⟨by kernel_rfl,?hyc1⟩) (by assumption) ?restc1
     case hyc1=>(intro x hSx;(try dsimp only at hSx);go_simp;first | done | with_reducible rfl)
     try simp only[Act.put,List.setIfInBounds_toArray,List.set_cons_zero,List.set_cons_succ]
     refine aaa (i:=2) (some 18) (v:= ?vc2) rfl rfl (by kernel_rfl) (by kernel_rfl) (by kernel_rfl) (fun _ _ _ h=>h) (Or.inl ⟨by kernel_rfl,?hyc2⟩) (by assumption) ?restc2
     case hyc2=>(intro x hSx;(try dsimp only at hSx);go_simp;first | done | with_reducible rfl)
     try simp only[Act.put,List.setIfInBounds_toArray,List.set_cons_zero,List.set_cons_succ]
     refine aaa (i:=3) (some 19) (v:= ?vc3) rfl rfl (by kernel_rfl) (by kernel_rfl) (by kernel_rfl) (fun _ _ _ h=>h) (Or.inl ⟨by kernel_rfl,?hyc3⟩) (by assumption) ?restc3
     case hyc3=>(intro x hSx;(try dsimp only at hSx);obtain⟨z0,z1,z2⟩:=HC2.out x hSx;go_simp;first | done | with_reducible rfl)
     try simp only[Act.put,List.setIfInBounds_toArray,List.set_cons_zero,List.set_cons_succ]
     refine wpAnyH_ready (rs:=[4]) (by kernel_rfl) (by simp) ?_
     refine AllReadyH.cons rfl (fun K hK=> ?_) AllReadyH.nil
     go_simp
     go_wp2_with (go_at_call 72;refine(HMAY.out _ hHeldc).mono ?_;rintro e yc4 ⟨rfl,hqc4⟩)
     refine hK.out _ _ (hHeldc.trans (hqc4.mono hHeldc.size)) (fun hHeldc4=> ?_)
     clear hK K
     try simp only[Act.put,List.setIfInBounds_toArray,List.set_cons_zero,List.set_cons_succ]
     refine aaa (i:=5) (some 21) (v:=.bool false) rfl rfl (by kernel_rfl) (by kernel_rfl) (by kernel_rfl) (fun _ _ _ h=>h) (Or.inl ⟨by kernel_rfl,?hyc5⟩) (by assumption) ?restc5
     case hyc5=>(intro x hSx;(try dsimp only at hSx);go_simp;first | done | with_reducible rfl)
     try simp only[Act.put,List.setIfInBounds_toArray,List.set_cons_zero,List.set_cons_succ]
     refine aaa (i:=6) (some 22) (v:=.bool false) rfl rfl (by kernel_rfl) (by kernel_rfl) (by kernel_rfl) (fun _ _ _ h=>h) (Or.inl ⟨by kernel_rfl,?hyc6⟩) (by assumption) ?restc6
     case hyc6=>(intro x hSx;(try dsimp only at hSx);go_simp;first | done | with_reducible rfl)
     try simp only[Act.put,List.setIfInBounds_toArray,List.set_cons_zero,List.set_cons_succ]
     refine aaa (i:=7) (some 23) (v:= ?vc7) rfl rfl (by kernel_rfl) (by kernel_rfl) (by kernel_rfl) (fun _ _ _ h=>h) (Or.inl ⟨by kernel_rfl,?hyc7⟩) (by assumption) ?restc7
     case hyc7=>(intro x hSx;(try dsimp only at hSx);go_simp;first | done | with_reducible rfl)
     try simp only[Act.put,List.setIfInBounds_toArray,List.set_cons_zero,List.set_cons_succ]
     refine aaa (i:=8) (some 24) (v:=.bool true) rfl rfl (by kernel_rfl) (by kernel_rfl) (by kernel_rfl) (fun _ _ _ h=>h) (Or.inl ⟨by kernel_rfl,?hyc8⟩) (by assumption) ?restc8
     case hyc8=>(intro x hSx;(try dsimp only at hSx);go_simp;first | done | with_reducible rfl)
     try simp only[Act.put,List.setIfInBounds_toArray,List.set_cons_zero,List.set_cons_succ]
     refine aaa (i:=9) (some 25) (v:=.bool true) rfl rfl (by kernel_rfl) (by kernel_rfl) (by kernel_rfl) (fun _ _ _ h=>h) (Or.inl ⟨by kernel_rfl,?hyc9⟩) (by assumption) ?restc9
     case hyc9=>(intro x hSx;(try dsimp only at hSx);go_simp;first | done | with_reducible rfl)
     try simp only[Act.put,List.setIfInBounds_toArray,List.set_cons_zero,List.set_cons_succ]
     refine aaa (i:=10) (some 26) (v:= ?vc10) rfl rfl (by kernel_rfl) (by kernel_rfl) (by kernel_rfl) (fun _ _ _ h=>h) (Or.inl ⟨by kernel_rfl,?hyc10⟩) (by assumption) ?restc10
     case hyc10=>(intro x hSx;(try dsimp only at hSx);go_simp;first | done | with_reducible rfl)
     try simp only[Act.put,List.setIfInBounds_toArray,List.set_cons_zero,List.set_cons_succ]
     refine aaa (i:=11) (some 27) (v:= ?vc11) rfl rfl (by kernel_rfl) (by kernel_rfl) (by kernel_rfl) (fun _ _ _ h=>h) (Or.inl ⟨by kernel_rfl,?hyc11⟩) (by assumption) ?restc11
     case hyc11=>(intro x hSx;(try dsimp only at hSx);go_simp;first | done | with_reducible rfl)
     try simp only[Act.put,List.setIfInBounds_toArray,List.set_cons_zero,List.set_cons_succ]
     refine aaa (i:=12) (some 28) (v:= ?vc12) rfl rfl (by kernel_rfl) (by kernel_rfl) (by kernel_rfl) (fun _ _ _ h=>h) (Or.inl ⟨by kernel_rfl,?hyc12⟩) (by assumption) ?restc12
     case hyc12=>(intro x hSx;(try dsimp only at hSx);go_simp;first | done | with_reducible rfl)
     try simp only[Act.put,List.setIfInBounds_toArray,List.set_cons_zero,List.set_cons_succ]
     refine aaa (i:=13) (some 29) (v:= ?vc13) rfl rfl (by kernel_rfl) (by kernel_rfl) (by kernel_rfl) (fun _ _ _ h=>h) (Or.inl ⟨by kernel_rfl,?hyc13⟩) (by assumption) ?restc13
     case hyc13=>(intro x hSx;(try dsimp only at hSx);go_simp;first | done | with_reducible rfl)
     try simp only[Act.put,List.setIfInBounds_toArray,List.set_cons_zero,List.set_cons_succ]
     refine aaa (i:=14) (some 30) (v:= ?vc14) rfl rfl (by kernel_rfl) (by kernel_rfl) (by kernel_rfl) (fun _ _ _ h=>h) (Or.inl ⟨by kernel_rfl,?hyc14⟩) (by assumption) ?restc14
     case hyc14=>(intro x hSx;(try dsimp only at hSx);go_simp;first | done | with_reducible rfl)
     try simp only[Act.put,List.setIfInBounds_toArray,List.set_cons_zero,List.set_cons_succ]
     refine aaa (i:=15) (some 31) (v:= ?vc15) rfl rfl (by kernel_rfl) (by kernel_rfl) (by kernel_rfl) (fun _ _ _ h=>h) (Or.inl ⟨by kernel_rfl,?hyc15⟩) (by assumption) ?restc15
     case hyc15=>(intro x hSx;(try dsimp only at hSx);obtain⟨z0,z1,z2⟩:=HC2.out x hSx;go_simp;first | done | with_reducible rfl)
     try simp only[Act.put,List.setIfInBounds_toArray,List.set_cons_zero,List.set_cons_succ]
     refine aaa (i:=16) (some 32) (v:= ?vc16) rfl rfl (by kernel_rfl) (by kernel_rfl) (by kernel_rfl) (fun _ _ _ h=>h) (Or.inl ⟨by kernel_rfl,?hyc16⟩) (by assumption) ?restc16
     case hyc16=>(intro x hSx;(try dsimp only at hSx);go_simp;first | done | with_reducible rfl)
     try simp only[Act.put,List.setIfInBounds_toArray,List.set_cons_zero,List.set_cons_succ]
     refine aaa (i:=17) (some 33) (v:= ?vc17) rfl rfl (by kernel_rfl) (by kernel_rfl) (by kernel_rfl) (fun _ _ _ h=>h) (Or.inl ⟨by kernel_rfl,?hyc17⟩) (by assumption) ?restc17
     case hyc17=>(intro x hSx;(try dsimp only at hSx);go_simp;first | done | with_reducible rfl)
     try simp only[Act.put,List.setIfInBounds_toArray,List.set_cons_zero,List.set_cons_succ]
     refine aaa (i:=18) (some 34) (v:= ?vc18) rfl rfl (by kernel_rfl) (by kernel_rfl) (by kernel_rfl) (fun _ _ _ h=>h) (Or.inl ⟨by kernel_rfl,?hyc18⟩) (by assumption) ?restc18
     case hyc18=>(intro x hSx;(try dsimp only at hSx);go_simp;first | done | with_reducible rfl)
     try simp only[Act.put,List.setIfInBounds_toArray,List.set_cons_zero,List.set_cons_succ]
     refine aaa (i:=19) (some 35) (v:= ?vc19) rfl rfl (by kernel_rfl) (by kernel_rfl) (by kernel_rfl) (fun _ _ _ h=>h) (Or.inl ⟨by kernel_rfl,?hyc19⟩) (by assumption) ?restc19
     case hyc19=>(intro x hSx;(try dsimp only at hSx);go_simp;first | done | with_reducible rfl)
     try simp only[Act.put,List.setIfInBounds_toArray,List.set_cons_zero,List.set_cons_succ]
     refine aaa (i:=20) (some 36) (v:= ?vc20) rfl rfl (by kernel_rfl) (by kernel_rfl) (by kernel_rfl) (fun _ _ _ h=>h) (Or.inl ⟨by kernel_rfl,?hyc20⟩) (by assumption) ?restc20
     case hyc20=>(intro x hSx;(try dsimp only at hSx);obtain⟨z0,z1,z2⟩:=HC2.out x hSx;go_simp;first | done | with_reducible rfl)
     try simp only[Act.put,List.setIfInBounds_toArray,List.set_cons_zero,List.set_cons_succ]
     refine wpAnyH_ready (rs:=[21]) (by kernel_rfl) (by simp) ?_
     refine AllReadyH.cons rfl (fun K hK=> ?_) AllReadyH.nil
     go_simp
     go_wp2_with (go_at_call 34;refine(HAH.out _ hHeldc4).mono ?_;rintro e yc21 ⟨rfl,ndc21,rfl⟩)
     refine hK.out _ _ (hHeldc4.trans ((afq _ _).mono hHeldc4.size)) (fun hHeldc21=> ?_)
     clear hK K
     try simp only[Act.put,List.setIfInBounds_toArray,List.set_cons_zero,List.set_cons_succ]
     refine aaa (i:=22) (some 38) (v:=.bool gb) rfl rfl (by kernel_rfl) (by kernel_rfl) (by kernel_rfl) (fun _ _ _ h=>h) (Or.inl ⟨by kernel_rfl,?hyc22⟩) (by assumption) ?restc22
     case hyc22=>(intro x hSx;(try dsimp only at hSx);go_simp;first | done | with_reducible rfl)
     try simp only[Act.put,List.setIfInBounds_toArray,List.set_cons_zero,List.set_cons_succ]
     refine aaa (i:=23) (some 39) (v:=.bool gb) rfl rfl (by kernel_rfl) (by kernel_rfl) (by kernel_rfl) (fun _ _ _ h=>h) (Or.inl ⟨by kernel_rfl,?hyc23⟩) (by assumption) ?restc23
     case hyc23=>(intro x hSx;(try dsimp only at hSx);go_simp;first | done | with_reducible rfl)
     try simp only[Act.put,List.setIfInBounds_toArray,List.set_cons_zero,List.set_cons_succ]
     refine aaa (i:=24) (some 40) (v:=.bool gb) rfl rfl (by kernel_rfl) (by kernel_rfl) (by kernel_rfl) (fun _ _ _ h=>h) (Or.inl ⟨by kernel_rfl,?hyc24⟩) (by assumption) ?restc24
     case hyc24=>(intro x hSx;(try dsimp only at hSx);go_simp;first | done | with_reducible rfl)
     try simp only[Act.put,List.setIfInBounds_toArray,List.set_cons_zero,List.set_cons_succ]
     refine wpAnyH_done (by kernel_rfl) ?_ _
     have HBy:Hid (Below w.heap.size w _):=hHeldc21
     clear HMAY HC0 HC2 HAH hgb hgb2 te tk
     cases gb with
     | true=>
      have hf:abg l []=false:=by
       rw[HC.out,HST.out,if_pos HEB.out.symm,if_pos (by rw[←HZ.out];exact of_decide_eq_true HGB.out)]
      have hg:G=.returned (.tuple #[.string ⟨#[]⟩,.int .i64 1]):=HRF.out hf
      subst hg
      clear HC HST HEB HX HPV hf HZ HGB
      go_wp2
      refine bodyPost_ret (acq rfl rfl) rfl ?_
      exact⟨rfl,HBy.out⟩
     | false=>
      have HC3:Hid (abg l []=abg (l.drop (k+1)) (ad6 l (k+1))):=by
       show _=_
       rw[HC.out,HST.out,if_pos HEB.out.symm,if_neg (by rw[←HZ.out];exact of_decide_eq_false HGB.out)]
      clear HC HST HEB HX HPV HZ HGB
      go_wp2
      go_roundw
      case rel=>exact⟨k+1,by omega,by simp,HC3,HBy⟩
      case measure=>simp only[intOf];omega
  ·obtain rfl:k=ln:=by omega
   have tl:decide ((k:Int)<(k:Int))=false:=decide_eq_false (by omega)
   have hct:abg l []=true:=by
    rw[HC.out,List.drop_eq_nil_of_le (by rw[HLN.out];exact Nat.le_refl _)]
    rfl
   have HOK:Hid (∀x∈l,EntOk x):=al4 l [] hct
   have HR2:Hid (G=if 65536<(acx l).length then .returned (.tuple #[.string ⟨#[]⟩,.int .i64 2]) else .returned (.tuple #[.string (bsz (acx l)),.int .i64 0])):=HRT.out hct
   clear HC HRF HRT hct
   obtain⟨wo,hwo⟩: ∃wo,wo=wr:=⟨_,rfl⟩
   subst hwo
   have hzo:=HB.out.size
   go_wp2
   go_loopw [5,6] (fun u i wx=> ∃(j:Nat) (acc:List UInt8),j≤k∧i=.int .i64 (j:Int)∧acc.length≤10001*j∧Hid (acc=acx (l.take j))∧BOwn 5 wx w.heap.size u acc∧Below w.heap.size w wx) (fun _ i _=>k-(intOf i).toNat)
   case atStart=>exact⟨0,[],Nat.zero_le _,rfl,by simp,by show _=_;simp[acx],BOwn.nil 5 _ _,HB.out⟩
   case round=>
    obtain⟨j,acc,hj,rfl,hacc,HT,hown,hbx⟩:=hrel
    have HO:Hid (BOwn 5 wr w.heap.size u5 acc):=hown
    have hzx:=hbx.size
    clear hown
    by_cases hlt2:j<k
    ·have hjl:j<l.length:=by rw[HLN.out];exact hlt2
     have hok:=HOK.out _ (List.getElem_mem hjl)
     have hst:=avc l j hjl
     have hes:=aw1 hok
     obtain⟨b,off,hab,pa,pc,ea,ec,c0,c1,hip,hie⟩:=HIN.out.at hjl
     subst hab
     have hbn:b<n₀:=by
      rcases HIN.out with ⟨a',cap',e,e2⟩ | ⟨b',off',cap',e,hb',_⟩
      ·rw[e2] at hjl;exact absurd hjl (by simp)
      ·cases e;exact hb'
     obtain⟨x,hx⟩: ∃x,x=l[j]:=⟨_,rfl⟩
     rw[←hx] at hok hst hes c0 c1 hip hie
     clear hx
     obtain⟨p,es⟩:=x
     dsimp only at c0 c1 hip hie
     have HTX:Hid (∀x,Below w.heap.size w x→Calls Tryz.prog 73 #[.agg #[.slice pa p.length pc,.slice ea es.length ec]] x fun e w'=>e=.returned (.string (bsz (agu (p,es))))∧Below x.heap.size x w'):=fun x hx=>ap3 p es hok n₀ pa pc ea ec x (Nat.le_trans hn₀ hx.size) (hip.below hx hn₀) (hie.below hx hn₀)
     obtain⟨E,hE⟩: ∃E,E=agu (p,es):=⟨_,rfl⟩
     rw[←hE] at hst hes HTX
     have HST:Hid (acx (l.take (j+1))=acx (l.take j)++(if 0<j then [10] else [])++E):=hst
     obtain⟨pn,hpn⟩: ∃pn,p.length=pn:=⟨_,rfl⟩
     obtain⟨en,hen⟩: ∃en,es.length=en:=⟨_,rfl⟩
     rw[hpn] at c0 HTX
     rw[hen] at c1 HTX
     have HC0:Hid (∀x,Below w.heap.size w x→x.cell? ⟨b,off+j*2,none⟩=some (.slice pa pn pc)∧x.cell? ⟨b,off+j*2+1,none⟩=some (.slice ea en ec)):=fun x hx=>⟨(hx.cell (p:=⟨b,_,none⟩) (show b<w.heap.size by omega)).trans c0,(hx.cell (p:=⟨b,_,none⟩) (show b<w.heap.size by omega)).trans c1⟩
     have tl2:decide ((j:Int)<(k:Int))=true:=decide_eq_true (by omega)
     clear hok hst c0 c1 hip hie hE hpn hen
     by_cases hj0:0<j
     ·have tj:decide ((0:Int)<(j:Int))=true:=decide_eq_true (by omega)
      have HS2:Hid (acc++[10]++E=acx (l.take (j+1))):=by
       show _=_
       rw[HST.out,HT.out,if_pos hj0]
      clear HST HT
      go_upto_region 14 with (first | (at_builtin;refine ail rfl _ _ 78 rfl 5 Tryz.underlying78 awq w.heap.size _ acc rfl HO.out 10 _ rfl 1 rfl (by omega) hzx w.heap.size w hbx (Nat.le_refl _) ?_;intro v2 w2 hown2 hb2 hz2))
      have HO2:Hid (BOwn 5 w2 w.heap.size v2 (acc++[10])):=hown2
      have HB2:Hid (Below w.heap.size w w2):=hb2
      have hcc:=HTX.out w2 HB2.out
      obtain⟨z0,z1⟩:=HC0.out w2 HB2.out
      clear hown2 hb2
      go_wp2_with fail
      refine hcc.mono ?_
      clear hcc z0 z1
      rintro _ w3 ⟨rfl,hb3⟩
      have HB3:Hid (Below w.heap.size w w3):=HB2.out.trans (hb3.mono HB2.out.size)
      have HO3:Hid (BOwn 5 w3 w.heap.size v2 (acc++[10])):=aae HO2.out hb3
      have hz3:=HB3.out.size
      clear hb3
      go_wp2_with (at_builtin;refine aaz rfl _ _ rfl w.heap.size _ (acc++[10]) rfl HO3.out E rfl (by simp;omega) hz3 ?_;intro v4 w4 hown4 hb4 hz4 _)
      go_roundw
      case rel=>exact⟨j+1,_,by omega,by simp,by simp;omega,HS2,hown4,HB3.out.trans hb4⟩
      case measure=>simp only[intOf];omega
     ·have tj:decide ((0:Int)<(j:Int))=false:=decide_eq_false (by omega)
      have HS2:Hid (acc++E=acx (l.take (j+1))):=by
       show _=_
       rw[HST.out,HT.out,if_neg hj0]
       simp
      clear HST HT
      have hcc:=HTX.out wr hbx
      obtain⟨z0,z1⟩:=HC0.out wr hbx
      go_wp2_with fail
      refine hcc.mono ?_
      clear hcc z0 z1
      rintro _ w3 ⟨rfl,hb3⟩
      have HB3:Hid (Below w.heap.size w w3):=hbx.trans (hb3.mono hbx.size)
      have HO3:Hid (BOwn 5 w3 w.heap.size u5 acc):=aae HO.out hb3
      have hz3:=HB3.out.size
      clear hb3
      go_wp2_with (at_builtin;refine aaz rfl _ _ rfl w.heap.size _ acc rfl HO3.out E rfl (by omega) hz3 ?_;intro v4 w4 hown4 hb4 hz4 _)
      go_roundw
      case rel=>exact⟨j+1,_,by omega,by simp,by simp;omega,HS2,hown4,HB3.out.trans hb4⟩
      case measure=>simp only[intOf];omega
    ·obtain rfl:j=k:=by omega
     have tl2:decide ((j:Int)<(j:Int))=false:=decide_eq_false (by omega)
     have HA:Hid (acc=acx l):=by
      show _=_
      rw[HT.out,List.take_of_length_le (by rw[HLN.out];exact Nat.le_refl _)]
     have hform:=HO.out.form
     have hval: ∃a c,u5=.slice a acc.length c:=by
      rcases hform with ⟨rfl,rfl⟩ | ⟨g,c,rfl,_⟩
      ·exact⟨none,0,rfl⟩
      ·exact⟨_,_,rfl⟩
     obtain⟨ua,uc,rfl⟩:=hval
     have HRUN:=acp wr 78 9 5 Tryz.underlying78 Tryz.underlying5 Tryz.underlying9 w.heap.size _ acc HO.out
     clear hform HT HOK HIN HPL HO
     by_cases hbig:65536<acc.length
     ·have tb:decide ((65536:Int)<(acc.length:Int))=true:=decide_eq_true (by omega)
      have hg:G=.returned (.tuple #[.string ⟨#[]⟩,.int .i64 2]):=by rw[HR2.out,←HA.out,if_pos hbig]
      subst hg
      clear HRUN
      go_wp2
      refine bodyPost_ret (acq rfl rfl) rfl ?_
      exact⟨rfl,hbx⟩
     ·have tb:decide ((65536:Int)<(acc.length:Int))=false:=decide_eq_false (by omega)
      have hg:G=.returned (.tuple #[.string (bsz acc),.int .i64 0]):=by rw[HR2.out,←HA.out,if_neg hbig]
      subst hg
      go_wp2
      refine bodyPost_ret (acq rfl rfl) rfl ?_
      exact⟨rfl,hbx⟩
end Go.Proofs.YtpfkoldfbecdlaaGreatDoor
