/- Contracts and lemmas (nothing is claimed here). -/
import Derived.Test.YtfhpgmlfgjfknaaGreatDoorJ18
import Derived.Shelf.SlIter.Sorted
import Derived.RangeFuncNested
import Derived.Shelf.SlSortCmp.WholeK
namespace Go.Proofs.YtfhpgmlfgjfknaaGreatDoor
open Go.RowKit Go.Vf Go.Maps
structure PlaceAt (l:List PM)(p:Int)(k:Nat):Prop where
 le:k≤l.length
 lo: ∀i (h:i<l.length),i<k→(l[i]).point<p
 hi: ∀i (h:i<l.length),k≤i→p≤(l[i]).point
def asa (l:List PM)(p:Int)(w:World)(e:Ending)(w':World):Prop:= ∃(k:Nat) (b:Bool),PlaceAt l p k∧e=.returned (.tuple #[.int .i64 k,.bool b])∧((b=true∧ ∃h:k<l.length,(l[k]).point=p)∨(b=false∧ ∀i (h:i<l.length),(l[i]).point≠p))∧Below w.heap.size w w'
theorem agc {tmps:Array Value}{w:World}{a b:Value}(t2:tmps[4]?.getD undef=a)(t3:tmps[5]?.getD undef=b):(results Tryz.f96 tmps).run Tryz.prog w=.ok (.tuple #[a,b]) w:=by
 simp[results,Tryz.results96,go_sem,t2,t3]
theorem ag0 {l:List PM}(h:(l.map PM.point).Pairwise (· < ·)){i j:Nat}(hi:i<l.length)(hj:j<l.length)(hij:i<j):(l[i]).point<(l[j]).point:=by
 have:=List.pairwise_iff_getElem.1 h i j (by simpa using hi) (by simpa using hj) hij
 simpa using this
set_option maxHeartbeats 4000000 in
set_option maxRecDepth 20000 in
theorem ag3 (l:List PM)(hrise:(l.map PM.point).Pairwise (· < ·))(hll:l.length≤1048576)(v:Value)(p:Int)(n₀:Nat)(w:World)(hn₀:n₀≤w.heap.size)(hin:MIn n₀ w v l):
  Calls Tryz.prog 96 #[.agg #[v],.int .i64 p] w fun e w'=>asa l p w e w':=by
 obtain⟨a,cap,rfl⟩:=hin.val
 have hb0:=(Below.refl w.heap.size w).alloc (Nat.le_refl _) (.cells #[.slice a l.length cap] 62)
 have hbn:=Blk.new w 62 #[.slice a l.length cap]
 have hin0:=hin.below hb0 hn₀
 go_enter Tryz.func96,Tryz.ntmps96
 go_upto_region 1 with fail
 generalize w.alloc (.cells #[.slice a l.length cap] 62)=W at hb0 hbn hin0⊢
 have e0:W.cell? ⟨w.heap.size,0,none⟩=some (.slice a l.length cap):=hbn.cell 0
 go_wp2_with fail
 go_loopw [6,7,8] (fun x y _ wr=> ∃(lo hi:Nat),lo≤hi∧hi≤l.length∧x=.int .i64 lo∧y=.int .i64 hi∧Hid ((∀i (h:i<l.length),i<lo→(l[i]).point<p)∧(∀i (h:i<l.length),hi≤i→p≤(l[i]).point))∧wr=W) (fun x y _ _=>(intOf y).toNat-(intOf x).toNat)
 case atStart=>exact⟨0,l.length,by omega,by omega,rfl,rfl,⟨fun i h h2=>absurd h2 (by omega),fun i h h2=>absurd h (by omega)⟩,rfl⟩
 case round=>
  obtain⟨lo,hi,hle,hhi,rfl,rfl,HI,rfl⟩:=hrel
  by_cases hlt:lo<hi
  ·have hmid:(lo+hi)/2<l.length:=by omega
   obtain⟨b,off,hao,pa,pk,pc,c0,_⟩:=hin0.at hmid
   subst hao
   have HL:Hid (∀i (h:i<l.length),i<(lo+hi)/2+1→(l[i]).point<p∨(l[(lo+hi)/2]).point≥p):=fun i h h2=>by
    by_cases hp:(l[(lo+hi)/2]).point<p
    ·left
     rcases Nat.lt_or_ge i ((lo+hi)/2) with h3 | h3
     ·have:=ag0 hrise h hmid h3;omega
     ·obtain rfl:i=(lo+hi)/2:=by omega
      exact hp
    ·right;omega
   have HH:Hid (∀i (h:i<l.length),(lo+hi)/2≤i→p≤(l[i]).point∨(l[(lo+hi)/2]).point<p):=fun i h h2=>by
    by_cases hp:(l[(lo+hi)/2]).point<p
    ·right;exact hp
    ·left
     rcases Nat.lt_or_ge ((lo+hi)/2) i with h3 | h3
     ·have:=ag0 hrise hmid h h3;omega
     ·obtain rfl:i=(lo+hi)/2:=by omega
      omega
   generalize (l[(lo+hi)/2]).point=pt at c0 HL HH
   have hm1:lo≤(lo+hi)/2∧(lo+hi)/2<hi:=by omega
   obtain⟨M,hM⟩: ∃M,(lo+hi)/2=M:=⟨_,rfl⟩
   have hMi:((lo:Int)+(hi:Int))/2=(M:Int):=by omega
   rw[hM] at c0 HL HH hm1 hmid
   by_cases hp:pt<p
   ·have HI2:Hid ((∀i (h:i<l.length),i<M+1→(l[i]).point<p)∧(∀i (h:i<l.length),hi≤i→p≤(l[i]).point)):=⟨fun i h h2=>(HL.out i h h2).resolve_right (by omega),HI.out.2⟩
    clear HI HL HH hM
    go_wp2_with fail
    exact⟨⟨M+1,hi,by omega,by omega,by go_num,rfl,HI2,trivial⟩,by simp only[intOf];omega⟩
   ·have HI2:Hid ((∀i (h:i<l.length),i<lo→(l[i]).point<p)∧(∀i (h:i<l.length),M≤i→p≤(l[i]).point)):=⟨HI.out.1,fun i h h2=>(HH.out i h h2).resolve_right hp⟩
    clear HI HL HH hM
    go_wp2_with fail
    exact⟨⟨lo,M,by omega,by omega,rfl,congrArg (Value.int .i64) hMi,HI2,trivial⟩,by simp only[intOf];omega⟩
  ·obtain rfl:hi=lo:=by omega
   have HPA:Hid (PlaceAt l p hi):=⟨hhi,HI.out.1,HI.out.2⟩
   clear HI
   by_cases hk:hi<l.length
   ·obtain⟨b,off,hao,pa,pk,pc,c0,_⟩:=hin0.at hk
    subst hao
    obtain⟨pt,hpt⟩: ∃pt,(l[hi]).point=pt:=⟨_,rfl⟩
    have HPT:Hid ((l[hi]).point=pt):=hpt
    rw[hpt] at c0
    clear hpt
    have d1:decide ((hi:Int)<(l.length:Int))=true:=by simp;omega
    by_cases hp:pt=p
    ·have d2:(pt==p)=true:=by simp[hp]
     have HY:Hid (∃h:hi<l.length,(l[hi]).point=p):=⟨hk,by rw[HPT.out,hp]⟩
     clear hp
     go_wp2_with fail
     go_quiet (fail)
     go_wp2
     refine bodyPost_ret (agc rfl rfl) rfl ?_
     exact⟨hi,true,HPA.out,rfl,.inl ⟨rfl,HY.out⟩,hb0.trans (aby wr _ _)⟩
    ·have d2:(pt==p)=false:=by simp[hp]
     have HN:Hid (∀i (h:i<l.length),(l[i]).point≠p):=fun i h e=>by
      rcases Nat.lt_or_ge i hi with h1 | h1
      ·have:=HPA.out.lo i h h1;omega
      ·rcases Nat.lt_or_ge hi i with h2 | h2
       ·have h3:=ag0 hrise hk h h2
        have h4:=HPA.out.hi hi hk (Nat.le_refl _)
        omega
       ·obtain rfl:i=hi:=by omega
        exact hp (HPT.out.symm.trans e)
     clear hp
     go_wp2_with fail
     go_quiet (fail)
     go_wp2
     refine bodyPost_ret (agc rfl rfl) rfl ?_
     exact⟨hi,false,HPA.out,rfl,.inr ⟨rfl,HN.out⟩,hb0.trans (aby wr _ _)⟩
   ·have d1:decide ((hi:Int)<(l.length:Int))=false:=by simp;omega
    have HN:Hid (∀i (h:i<l.length),(l[i]).point≠p):=fun i h e=>by
     have:=HPA.out.lo i h (by omega);omega
    go_wp2_with fail
    go_quiet (fail)
    go_wp2
    refine bodyPost_ret (agc rfl rfl) rfl ?_
    exact⟨hi,false,HPA.out,rfl,.inr ⟨rfl,HN.out⟩,hb0.trans (aby wr _ _)⟩
set_option maxHeartbeats 2000000 in
set_option maxRecDepth 20000 in
theorem a13 (n₁ n₂:Nat)(va vb:Value)(a b:List Int)(w:World)(ha:Ints n₁ w va a)(hb:Ints n₂ w vb b)(hla:a.length≤4611686018427387904)(hlb:b.length≤4611686018427387904):
  Calls Tryz.prog 144 #[va,vb] w fun e w'=>e=.returned (.int .i64 (aaj a b))∧ ∃n,w'=w.drewN n:=by
 obtain⟨aa,ca,rfl⟩:=ai7 ha
 obtain⟨ab,cb,rfl⟩:=ai7 hb
 generalize hR:aaj a b=R
 have HR:Hid (aaj (a.drop 0) (b.drop 0)=R):=hR
 clear hR
 go_enter Tryz.func144,Tryz.ntmps144
 go_wp2_with fail
 go_loopw [5] (fun i wr=> ∃k n:Nat,k≤a.length∧k≤b.length∧i=.int .i64 k∧Hid (aaj (a.drop k) (b.drop k)=R)∧wr=w.drewN n) (fun i _=>a.length-(intOf i).toNat)
 case atStart=>exact⟨0,0,by omega,by omega,rfl,HR,rfl⟩
 case round=>
  clear HR
  obtain⟨k,nd,hk,hkb,rfl,HK,rfl⟩:=hrel
  by_cases hlt:k<a.length
  ·obtain⟨b1,o1,rfl,x1⟩:=ajv ha hlt
   have hd1:a.drop k=a[k]::a.drop (k+1):=List.drop_eq_getElem_cons hlt
   by_cases hltb:k<b.length
   ·obtain⟨b2,o2,rfl,x2⟩:=ajv hb hltb
    have hd2:b.drop k=b[k]::b.drop (k+1):=List.drop_eq_getElem_cons hltb
    have hKK:=HK.out
    rw[hd1,hd2] at hKK
    generalize a[k]=x at x1 hKK
    generalize b[k]=y at x2 hKK
    unfold aaj at hKK
    clear HK hd1 hd2
    go_upto_region 4 with fail
    by_cases h1:x<y
    ·rw[if_pos h1] at hKK
     have HRn:Hid (R= -1):=hKK.symm
     clear hKK
     go_region
     go_wp2
     go_ret
     exact⟨by rw[HRn.out];rfl,nd+1,rfl⟩
    ·rw[if_neg h1] at hKK
     go_region
     go_upto_region 6 with fail
     by_cases h2:y<x
     ·rw[if_pos h2] at hKK
      have HRn:Hid (R=1):=hKK.symm
      clear hKK
      go_region
      go_wp2
      go_ret
      exact⟨by rw[HRn.out];rfl,nd+2,rfl⟩
     ·rw[if_neg h2] at hKK
      have HK2:Hid (aaj (a.drop (k+1)) (b.drop (k+1))=R):=hKK
      clear hKK
      go_region
      go_wp2
      go_roundw
      case rel=>exact⟨k+1,nd+2,by omega,by omega,by simp,HK2,rfl⟩
      case measure=>simp only[intOf];omega
   ·have hRn:R=1:=by
     rw[←HK.out,hd1,show b.drop k=[] from List.drop_of_length_le (by omega)];rfl
    have hl1: ¬a.length<b.length:=by omega
    have hl2:b.length<a.length:=by omega
    clear HK hd1
    go_wp2
    go_ret
    exact⟨by rw[hRn];rfl,nd,rfl⟩
  ·by_cases hltb:k<b.length
   ·have hRn:R= -1:=by
     rw[←HK.out,show a.drop k=[] from List.drop_of_length_le (by omega),List.drop_eq_getElem_cons hltb];rfl
    have hl:a.length<b.length:=by omega
    clear HK
    go_wp2
    go_ret
    exact⟨by rw[hRn];rfl,nd,rfl⟩
   ·have hRn:R=0:=by
     rw[←HK.out,show a.drop k=[] from List.drop_of_length_le (by omega),show b.drop k=[] from List.drop_of_length_le (by omega)];rfl
    have hl: ¬a.length<b.length:=by omega
    have hl2: ¬b.length<a.length:=by omega
    clear HK
    go_wp2
    go_ret
    exact⟨by rw[hRn];rfl,nd,rfl⟩
def NIn (n₀:Nat)(w:World)(v:Value)(l:List Ent):Prop:=
 (∃a cap,v=.slice a 0 cap∧l=[])∨ ∃b off cap,v=.slice (some ⟨b,off,none⟩) l.length cap∧b<n₀∧ ∀j (hj:j<l.length),∃pv ev,w.cell? ⟨b,off+j*2,none⟩=some pv∧Ints n₀ w pv l[j].1∧w.cell? ⟨b,off+j*2+1,none⟩=some ev∧Els n₀ w ev l[j].2
theorem NIn.val {n₀:Nat}{w:World}{v:Value}{l:List Ent}(h:NIn n₀ w v l): ∃a cap,v=.slice a l.length cap:=by
 rcases h with ⟨a,cap,rfl,rfl⟩ | ⟨b,off,cap,rfl,_⟩
 ·exact⟨_,_,rfl⟩
 ·exact⟨_,_,rfl⟩
theorem NIn.below {n₀ n:Nat}{A B:World}{v:Value}{l:List Ent}(h:NIn n₀ A v l)(hb:Below n A B)(hn:n₀≤n):NIn n₀ B v l:=by
 rcases h with h | ⟨b,off,cap,e,hlt,hc⟩
 ·exact .inl h
 ·refine .inr ⟨b,off,cap,e,hlt,fun j hj=> ?_⟩
  obtain⟨pv,ev,h1,h2,h3,h4⟩:=hc j hj
  exact⟨pv,ev,(hb.cell (p:=⟨b,_,none⟩) (show b<n by omega)).trans h1,h2.below hb hn,(hb.cell (p:=⟨b,_,none⟩) (show b<n by omega)).trans h3,h4.below hb hn⟩
theorem NIn.at {n₀:Nat}{w:World}{a:Option Addr}{k cap:Nat}{l:List Ent}(h:NIn n₀ w (.slice a k cap) l){j:Nat}(hj:j<l.length): ∃b off pv,a=some ⟨b,off,none⟩∧w.cell? ⟨b,off+j*2,none⟩=some pv∧Ints n₀ w pv l[j].1:=by
 rcases h with ⟨a',cap',e,rfl⟩ | ⟨b,off,cap',e,hb,hc⟩
 ·simp at hj
 ·cases (Value.slice.inj e).1
  obtain⟨pv,ev,h1,h2,_⟩:=hc j hj
  exact⟨b,off,pv,rfl,h1,h2⟩
def am0 (l:List Ent):Prop:=(l.map Prod.fst).Pairwise fun a b=>aaj a b<0
theorem aoz {l:List Ent}(h:am0 l){i j:Nat}(hi:i<l.length)(hj:j<l.length)(hij:i<j):aaj (l[i]).1 (l[j]).1<0:=by
 have:=List.pairwise_iff_getElem.1 h i j (by simpa using hi) (by simpa using hj) hij
 simpa using this
structure PlaceE (l:List Ent)(p:List Int)(k:Nat):Prop where
 le:k≤l.length
 lo: ∀i (h:i<l.length),i<k→aaj (l[i]).1 p<0
 hi: ∀i (h:i<l.length),k≤i→0≤aaj (l[i]).1 p
def ax6 (l:List Ent)(p:List Int)(w:World)(e:Ending)(w':World):Prop:= ∃(k:Nat) (b:Bool),PlaceE l p k∧e=.returned (.tuple #[.int .i64 k,.bool b])∧((b=true∧ ∃h:k<l.length,(l[k]).1=p)∨(b=false∧ ∀i (h:i<l.length),(l[i]).1≠p))∧Below w.heap.size w w'
theorem afs {tmps:Array Value}{w:World}{a b:Value}(t2:tmps[4]?.getD undef=a)(t3:tmps[5]?.getD undef=b):(results Tryz.f101 tmps).run Tryz.prog w=.ok (.tuple #[a,b]) w:=by
 simp[results,Tryz.results101,go_sem,t2,t3]
set_option maxHeartbeats 4000000 in
set_option maxRecDepth 20000 in
theorem ao1 (l:List Ent)(hrise:am0 l)(hll:l.length≤1048576)(hls: ∀e∈l,e.1.length≤1048576)(v pv:Value)(p:List Int)(hpl:p.length≤1048576)(n₀:Nat)(w:World)(hn₀:n₀≤w.heap.size)(hin:NIn n₀ w v l)(hp:Ints n₀ w pv p):
  Calls Tryz.prog 101 #[.agg #[v],pv] w fun e w'=>ax6 l p w e w':=by
 obtain⟨a,cap,rfl⟩:=hin.val
 have hb0:=(Below.refl w.heap.size w).alloc (Nat.le_refl _) (.cells #[.slice a l.length cap] 65)
 have hbn:=Blk.new w 65 #[.slice a l.length cap]
 have hin0:=hin.below hb0 hn₀
 have hp0:=hp.below hb0 hn₀
 go_enter Tryz.func101,Tryz.ntmps101
 go_upto_region 1 with fail
 generalize w.alloc (.cells #[.slice a l.length cap] 65)=W at hb0 hbn hin0 hp0⊢
 have e0:W.cell? ⟨w.heap.size,0,none⟩=some (.slice a l.length cap):=hbn.cell 0
 have HA:Hid (∀(i:Nat) (hi:i<l.length) (qv:Value) (n:Nat),Ints n₀ W qv (l[i]).1→Calls Tryz.prog 144 #[qv,pv] (W.drewN n) fun e w'=>e=.returned (.int .i64 (aaj (l[i]).1 p))∧ ∃m,w'=(W.drewN n).drewN m):=fun i hi qv n hq=>by
  have:=hls _ (List.getElem_mem hi)
  exact a13 n₀ n₀ qv pv _ _ (W.drewN n) hq hp0 (by omega) (by omega)
 go_wp2_with fail
 go_loopw [6,7,8] (fun x y _ wr=> ∃(lo hi n:Nat),lo≤hi∧hi≤l.length∧x=.int .i64 lo∧y=.int .i64 hi∧Hid ((∀i (h:i<l.length),i<lo→aaj (l[i]).1 p<0)∧(∀i (h:i<l.length),hi≤i→0≤aaj (l[i]).1 p))∧wr=W.drewN n) (fun x y _ _=>(intOf y).toNat-(intOf x).toNat)
 case atStart=>exact⟨0,l.length,0,by omega,by omega,rfl,rfl,⟨fun i h h2=>absurd h2 (by omega),fun i h h2=>absurd h (by omega)⟩,rfl⟩
 case round=>
  obtain⟨lo,hi,nd,hle,hhi,rfl,rfl,HI,rfl⟩:=hrel
  by_cases hlt:lo<hi
  ·have hmid:(lo+hi)/2<l.length:=by omega
   obtain⟨b,off,qv,hao,c0,hq⟩:=hin0.at hmid
   subst hao
   have hcall:=HA.out _ hmid qv nd hq
   have HL:Hid (∀i (h:i<l.length),i<(lo+hi)/2+1→aaj (l[i]).1 p<0∨ ¬aaj (l[(lo+hi)/2]).1 p<0):=fun i h h2=>by
    by_cases hp:aaj (l[(lo+hi)/2]).1 p<0
    ·left
     rcases Nat.lt_or_ge i ((lo+hi)/2) with h3 | h3
     ·exact aeb _ _ _ (aoz hrise h hmid h3) hp
     ·obtain rfl:i=(lo+hi)/2:=by omega
      exact hp
    ·right;exact hp
   have HH:Hid (∀i (h:i<l.length),(lo+hi)/2≤i→0≤aaj (l[i]).1 p∨aaj (l[(lo+hi)/2]).1 p<0):=fun i h h2=>by
    by_cases hp:aaj (l[(lo+hi)/2]).1 p<0
    ·right;exact hp
    ·left
     rcases Nat.lt_or_ge ((lo+hi)/2) i with h3 | h3
     ·exact Int.not_lt.1 fun h4=>hp (aeb _ _ _ (aoz hrise hmid h h3) h4)
     ·obtain rfl:i=(lo+hi)/2:=by omega
      exact Int.not_lt.1 hp
   generalize aaj (l[(lo+hi)/2]).1 p=pt at hcall HL HH
   have hm1:lo≤(lo+hi)/2∧(lo+hi)/2<hi:=by omega
   obtain⟨M,hM⟩: ∃M,(lo+hi)/2=M:=⟨_,rfl⟩
   have hMi:((lo:Int)+(hi:Int))/2=(M:Int):=by omega
   rw[hM] at c0 HL HH hm1 hmid
   clear hq
   by_cases hp:pt<0
   ·have HI2:Hid ((∀i (h:i<l.length),i<M+1→aaj (l[i]).1 p<0)∧(∀i (h:i<l.length),hi≤i→0≤aaj (l[i]).1 p)):=⟨fun i h h2=>(HL.out i h h2).resolve_right (by omega),HI.out.2⟩
    clear HI HL HH hM
    go_wp2_with fail
    refine hcall.mono ?_
    rintro _ w1 ⟨rfl,nm,rfl⟩
    go_wp2_with fail
    exact⟨⟨M+1,hi,nd+nm,by omega,by omega,by go_num,rfl,HI2,by simp⟩,by simp only[intOf];omega⟩
   ·have HI2:Hid ((∀i (h:i<l.length),i<lo→aaj (l[i]).1 p<0)∧(∀i (h:i<l.length),M≤i→0≤aaj (l[i]).1 p)):=⟨HI.out.1,fun i h h2=>(HH.out i h h2).resolve_right hp⟩
    clear HI HL HH hM
    go_wp2_with fail
    refine hcall.mono ?_
    rintro _ w1 ⟨rfl,nm,rfl⟩
    go_wp2_with fail
    exact⟨⟨lo,M,nd+nm,by omega,by omega,rfl,by first | rfl | exact congrArg (Value.int .i64) hMi,HI2,by simp⟩,by simp only[intOf];omega⟩
  ·obtain rfl:hi=lo:=by omega
   have HPA:Hid (PlaceE l p hi):=⟨hhi,HI.out.1,HI.out.2⟩
   clear HI
   by_cases hk:hi<l.length
   ·obtain⟨b,off,qv,hao,c0,hq⟩:=hin0.at hk
    subst hao
    have hcall:=HA.out _ hk qv nd hq
    obtain⟨pt,hpt⟩: ∃pt,aaj (l[hi]).1 p=pt:=⟨_,rfl⟩
    have HPT:Hid (aaj (l[hi]).1 p=pt):=hpt
    rw[hpt] at hcall
    clear hpt hq
    have d1:decide ((hi:Int)<(l.length:Int))=true:=by simp;omega
    by_cases hp:pt=0
    ·have d2:(pt==0)=true:=by simp[hp]
     have HY:Hid (∃h:hi<l.length,(l[hi]).1=p):=⟨hk,amg _ _ (by rw[HPT.out,hp])⟩
     clear hp
     go_wp2_with fail
     refine hcall.mono ?_
     rintro _ w1 ⟨rfl,nm,rfl⟩
     go_wp2_with fail
     refine bodyPost_ret (afs rfl rfl) rfl ?_
     exact⟨hi,true,HPA.out,rfl,.inl ⟨rfl,HY.out⟩,hb0.trans (aby W _ _)⟩
    ·have d2:(pt==0)=false:=by simp[hp]
     have HN:Hid (∀i (h:i<l.length),(l[i]).1≠p):=fun i h e=>by
      rcases Nat.lt_or_ge i hi with h1 | h1
      ·have:=HPA.out.lo i h h1;rw[e,ac4] at this;omega
      ·rcases Nat.lt_or_ge hi i with h2 | h2
       ·have h3:=aoz hrise hk h h2
        rw[e] at h3
        have:=HPA.out.hi hi hk (Nat.le_refl _);omega
       ·obtain rfl:i=hi:=by omega
        refine hp (HPT.out.symm.trans ?_)
        rw[e,ac4]
     clear hp
     go_wp2_with fail
     refine hcall.mono ?_
     rintro _ w1 ⟨rfl,nm,rfl⟩
     go_wp2_with fail
     refine bodyPost_ret (afs rfl rfl) rfl ?_
     exact⟨hi,false,HPA.out,rfl,.inr ⟨rfl,HN.out⟩,hb0.trans (aby W _ _)⟩
   ·have d1:decide ((hi:Int)<(l.length:Int))=false:=by simp;omega
    have HN:Hid (∀i (h:i<l.length),(l[i]).1≠p):=fun i h e=>by
     have:=HPA.out.lo i h (by omega);rw[e,ac4] at this;omega
    go_wp2_with fail
    refine bodyPost_ret (afs rfl rfl) rfl ?_
    exact⟨hi,false,HPA.out,rfl,.inr ⟨rfl,HN.out⟩,hb0.trans (aby W _ _)⟩
structure R8 where
 a0:Int
 a1:Int
 a2:Int
 a3:Int
 a4:Int
 a5:Int
 a6:Int
 a7:Int
deriving DecidableEq,Inhabited
def R8.l (r:R8):List Int:=[r.a0,r.a1,r.a2,r.a3,r.a4,r.a5,r.a6,r.a7]
def R8.of (l:List Int):R8:=⟨l.getD 0 0,l.getD 1 0,l.getD 2 0,l.getD 3 0,l.getD 4 0,l.getD 5 0,l.getD 6 0,l.getD 7 0⟩
theorem R8.of_l (r:R8):R8.of r.l=r:=rfl
theorem R8.l_of {l:List Int}(h:l.length=8):(R8.of l).l=l:=by
 obtain⟨a,b,c,d,e,f,g,i,rfl⟩:=arq h
 rfl
theorem R8.l_inj {r s:R8}(h:r.l=s.l):r=s:=by rw[←R8.of_l r,h,R8.of_l]
def ahn (r:R8):List Value:=r.l.map (Value.int .i64)
theorem ago (r:R8):(ahn r).length=8:=rfl
theorem avx (r:R8): ∀v∈ahn r,v.oneCell'=true:=by
 intro v hv
 obtain⟨x,_,rfl⟩:=List.mem_map.1 hv
 rfl
def a1l (r s:R8):Int:=aaj r.l s.l
end Go.Proofs.YtfhpgmlfgjfknaaGreatDoor
namespace Go.Proofs.YtfhpgmlfgjfknaaGreatDoor
open Go.RowKit Go.Vf Go.Maps Go.Sort Go.Shelf
attribute [local go_sem] Oper.semAt_some
def ait (r:R8):Value:=.agg (ahn r).toArray
theorem au4 {r s:R8}(h:ait r=ait s):r=s:=R8.l_inj (au5 h)
theorem a8e {α:Type}{l:List α}(h:l.length=8): ∃a b c d e f g i,l=[a,b,c,d,e,f,g,i]:=by
 match l,h with
 | [a,b,c,d,e,f,g,i],_=>exact⟨a,b,c,d,e,f,g,i,rfl⟩
theorem aq0 {d:Nat}{cs:List Value}{ls:List Lit}(h:Tryz.prog.keyLits (d+1) 3 cs=some ls): ∃z,cs=[.int .i64 z]∧InI z:=by
 unfold Program.keyLits at h
 simp only[Tryz.underlying3] at h
 rcases cs with _ | ⟨c,_ | ⟨c',r⟩⟩
 ·simp at h
 ·cases c with
  | int q n=>
   simp only at h
   split at h
   ·rename_i hw
    obtain⟨rfl,hw⟩:=hw
    refine⟨n,rfl,?_⟩
    simp[Lit.wf,IntKind.min,IntKind.max,IntKind.signed,IntKind.bits] at hw
    unfold InI;omega
   ·simp at h
  | _=>simp at h
 ·simp at h
theorem ai6 {v:Value}{kl:Lit}(h:keyOf Tryz.prog 162 v=some kl): ∃r:R8,v=ait r∧ako r.l∧ ∃s,kl=.string s:=by
 unfold keyOf at h
 simp only[Tryz.underlying162] at h
 split at h
 ·rename_i hf
  simp only[Bool.and_eq_true] at hf
  obtain⟨_,hf⟩:=hf
  simp only[Option.map_eq_some_iff] at h
  obtain⟨ls,hls,rfl⟩:=h
  cases v with
  | agg cs=>
   simp only[Value.formed,Tryz.underlying162,apv,beq_iff_eq] at hf
   obtain⟨m,hm⟩:=a5b
   rw[hm] at hls
   unfold Program.keyLits at hls
   simp only[Tryz.underlying162,Value.cells] at hls
   have hl8:cs.toList.length=8:=by simpa using hf
   rw[if_pos (by rw[apv];exact hl8),show List.range 8=[0,1,2,3,4,5,6,7] from rfl] at hls
   obtain⟨c0,c1,c2,c3,c4,c5,c6,c7,hcs⟩:=a8e hl8
   rw[hcs] at hls
   simp only[List.mapM_cons,List.mapM_nil,cells3,Option.map_eq_some_iff,Option.bind_eq_bind,Option.bind_eq_some_iff,Option.pure_def,Option.some.injEq,Nat.mul_one] at hls
   obtain⟨_,⟨l0,h0,_,⟨l1,h1,_,⟨l2,h2,_,⟨l3,h3,_,⟨l4,h4,_,⟨l5,h5,_,⟨l6,h6,_,⟨l7,h7,_⟩,_⟩,_⟩,_⟩,_⟩,_⟩,_⟩,_⟩,_⟩:=hls
   obtain⟨z0,e0,i0⟩:=aq0 h0
   obtain⟨z1,e1,i1⟩:=aq0 h1
   obtain⟨z2,e2,i2⟩:=aq0 h2
   obtain⟨z3,e3,i3⟩:=aq0 h3
   obtain⟨z4,e4,i4⟩:=aq0 h4
   obtain⟨z5,e5,i5⟩:=aq0 h5
   obtain⟨z6,e6,i6⟩:=aq0 h6
   obtain⟨z7,e7,i7⟩:=aq0 h7
   simp at e0 e1 e2 e3 e4 e5 e6 e7
   subst e0 e1 e2 e3 e4 e5 e6 e7
   refine⟨⟨z0,z1,z2,z3,z4,z5,z6,z7⟩,?_,⟨rfl,?_⟩,_,rfl⟩
   ·exact congrArg Value.agg (Array.ext' hcs)
   ·intro x hx
    simp only[R8.l,List.mem_cons,List.not_mem_nil,or_false] at hx
    rcases hx with rfl | rfl | rfl | rfl | rfl | rfl | rfl | rfl<;>assumption
  | _=>simp[Value.formed,Tryz.underlying162] at hf
 ·simp at h
def CollR (D0:DataW Value)(left:Lit→Bool)(ss:List R8):Prop:=
 ss.Nodup∧ ∀r,r∈ss↔ ∃kl,keyOf Tryz.prog 162 (ait r)=some kl∧has D0 kl=true∧left kl=false
theorem CollR.start (D0:DataW Value):CollR D0 (has D0) []:=⟨List.nodup_nil,fun r=>by
 constructor
 ·intro h;cases h
 ·rintro⟨kl,_,h1,h2⟩;rw[h1] at h2;cases h2⟩
theorem CollR.step {D0:DataW Value}{left:Lit→Bool}{ss:List R8}(h:CollR D0 left ss){x:R8}{kl:Lit}{y:DataW Value}(hk:keyOf Tryz.prog 162 (ait x)=some kl)(hlk:left kl=true)(hat: ∀zd,D0.atKey kl zd=y):
  CollR D0 (fun z=>left z&& !z.sameKey kl) (ss++[x]):=by
 have hhas:has D0 kl=true:=has_true_of_atKey hat
 have hnew:x∉ss:=fun hx=>by
  obtain⟨kl',hk',_,hl⟩:=(h.2 x).1 hx
  rw[hk] at hk'
  cases hk'
  rw[hlk] at hl;cases hl
 obtain⟨_,_,_,s,rfl⟩:=ai6 hk
 refine⟨List.nodup_append.2 ⟨h.1,by simp,fun a ha b hb=>by simp at hb;subst hb;exact fun e=>hnew (e▸ha)⟩,fun r=> ?_⟩
 rw[List.mem_append,List.mem_singleton,h.2 r]
 constructor
 ·rintro(⟨kl,hkr,h1,h2⟩ | rfl)
  ·exact⟨kl,hkr,h1,by simp[h2]⟩
  ·exact⟨_,hk,hhas,by simp[Lit.sameKey]⟩
 ·rintro⟨kl,hkr,h1,h2⟩
  obtain⟨_,_,_,s',rfl⟩:=ai6 hkr
  by_cases e:s'=s
  ·subst e
   exact .inr (au4 (keyed73.inj hkr hk))
  ·refine .inl ⟨_,hkr,h1,?_⟩
   simpa[Lit.sameKey,e] using h2
theorem CollR.done {f:List Int→Option Value}{D0:DataW Value}{left:Lit→Bool}{ss:List R8}(h:CollR D0 left ss)(hl: ∀kl,left kl=false)
  (h2: ∀l,ako l→ ∀kl,keyOf Tryz.prog 162 (ang l)=some kl→Maps.has D0 kl=(f l).isSome∧ ∀z,D0.atKey kl (.held z)=.held ((f l).getD z)):ss.Nodup∧ ∀r,r∈ss↔ako r.l∧(f r.l).isSome=true:=by
 refine⟨h.1,fun r=> ?_⟩
 rw[h.2 r]
 constructor
 ·rintro⟨kl,hk,hh,_⟩
  obtain⟨r',e,ok,_⟩:=ai6 hk
  have:=au4 e
  subst this
  exact⟨ok,by rw[←(h2 r.l ok kl hk).1];exact hh⟩
 ·rintro⟨ok,hs⟩
  obtain⟨kl,hk⟩:=a3s ok
  exact⟨kl,hk,by rw[(h2 r.l ok kl hk).1];exact hs,hl kl⟩
set_option maxHeartbeats 1000000 in
theorem keys_in (n:Nat)(mb:Option Nat)(w:World):
  CallsIn Fence.wide n Tryz.prog 86 #[.map mb] w fun e w'=>e=.returned (.func (.func 129) #[] #[.pointer (some ⟨w.heap.size,0,none⟩)])∧w'=w.alloc (.cells #[.map mb] 115):=by
 refine callsIn_of_wp Tryz.func86 rfl trivial ?_ rfl
 simp only[Tryz.ntmps86,List.size_toArray,List.length_cons,List.length_nil,Nat.reduceAdd,Nat.reduceSub,Array.replicate_succ,Array.replicate_zero,List.push_toArray,List.append_toArray,List.nil_append,List.cons_append]
 gi_wp2
 go_ret
 exact⟨rfl,rfl⟩
set_option maxRecDepth 100000 in
set_option maxHeartbeats 1000000 in
theorem a3r (n:Nat)(hn:1≤n)(l Bm b nn:Nat)(D0:DataW Value)(J Jx:List R8→World→Prop)
  (W:World) (hJ:AbidesFrom W.heap.size J)
  (hY: ∀pre x W1,J pre W1→pre.length<Maps.size D0→YieldAt Fence.wide (n-1) Tryz.prog l #[ait x] W1 fun e W'=>(e=.returned (.bool true)∧J (pre++[x]) W'∧KeepsWalks W1 W')∨(e=.returned (.bool false)∧Jx (pre++[x]) W'))
  (hm:W.cell? ⟨Bm,0,none⟩=some (.map (some b))) (hown:W.ownsMap Tryz.prog 162 ax7 b nn D0) (h0:J [] W):
  CallsIn Fence.wide n Tryz.prog 129 #[.func (.yield l) #[] #[],.pointer (some ⟨Bm,0,none⟩)] W fun e W'=>(∃v,e=.returned v)∧((∃ss:List R8,((∃left,CollR D0 left ss∧ ∀kl,left kl=false)∧ss.length≤Maps.size D0)∧J ss W')∨ ∃pre,True∧Jx pre W'):=by
 refine callsIn_of_wp Tryz.func129 rfl trivial ?_ rfl
 simp only[Tryz.ntmps129,List.size_toArray,List.length_cons,List.length_nil,Nat.reduceAdd,Nat.reduceSub,Array.replicate_succ,Array.replicate_zero,List.push_toArray,List.append_toArray,List.nil_append,List.cons_append]
 gi_wp2_with (first
  | (gi_at_range;refine wpListIn_range_own _ rfl _ 115 rfl 162 71 keyed73 Tryz.underlying115 _ b nn _ rfl hown ?_;intro w0 hrg0 hg0 hs0)
  | gi_in)
 go_frame
 gi_loopw [3] (fun _ wr=> ∃(left:Lit→Bool) (cnt:Nat) (ss:List R8),wr.ranges Tryz.prog 162 ax7 b W.heap.size nn D0 left cnt∧ss.length+cnt≤Maps.size D0∧CollR D0 left ss∧J ss wr)
  (fun _ wr=>wr.rangeLeft b W.heap.size)
 case atStart=>
  exact⟨_,_,[],hrg0,by simp,CollR.start D0,hJ [] W w0 none h0 hg0 (fun r e=>by cases e)⟩
 case round=>
  obtain⟨left,cnt,ss,hrg,hcs,hC,hJs⟩:=hrel
  gi_wp2_with (first
   | (gi_at_next;refine wpListIn_next_ranges _ rfl _ rfl 162 keyed73 ax7 ait id (fun key kl hk=>by obtain⟨x,hx,_⟩:=ai6 hk;exact⟨x,hx⟩) (fun v _ _=>⟨v,rfl⟩) b W.heap.size nn _ _ _ rfl hrg ?_ ?_)
   | gi_in)
  ·intro hc0 hl0
   gi_wp2
   go_end0
   exact⟨⟨_,rfl⟩,.inl ⟨ss,⟨⟨left,hC,hl0⟩,by omega⟩,hJs⟩⟩
  ·intro x c kl yd yp w2 cnt2 hkey hlk hv hat hrg2 hlt hg2 hs2 hen
   have hJ2:J ss w2:=hJ ss wr w2 (some W.heap.size) hJs hg2 (fun r e=>by cases e;exact⟨Nat.le_refl _,hrg.iter_walk⟩)
   have hCs:=hC.step hkey hlk hat
   have hss:ss.length<Maps.size D0:=by omega
   have hyy:=hY ss x
   generalize hxs:ss++[x]=xs at hCs hyy
   have hxl:xs.length=ss.length+1:=by rw[←hxs];simp
   obtain⟨a0,a1,a2,a3,a4,a5,a6,a7⟩:=x
   have hB3:=Blk.new w2 162 #[.int .i64 a0,.int .i64 a1,.int .i64 a2,.int .i64 a3,.int .i64 a4,.int .i64 a5,.int .i64 a6,.int .i64 a7]
   have hen':(Instr.entry (.pointer (some ⟨W.heap.size,0,none⟩))).run Tryz.prog w2=.ok (.tuple #[.agg #[.int .i64 a0,.int .i64 a1,.int .i64 a2,.int .i64 a3,.int .i64 a4,.int .i64 a5,.int .i64 a6,.int .i64 a7],c]) w2:=hen
   have hg3:=World.grownBy_alloc w2 (.cells #[.int .i64 a0,.int .i64 a1,.int .i64 a2,.int .i64 a3,.int .i64 a4,.int .i64 a5,.int .i64 a6,.int .i64 a7] 162) none
   have hJ3:=hJ ss _ _ none hJ2 hg3 (fun r e=>by cases e)
   have hk3:=KeepsWalks.alloc w2 (.cells #[.int .i64 a0,.int .i64 a1,.int .i64 a2,.int .i64 a3,.int .i64 a4,.int .i64 a5,.int .i64 a6,.int .i64 a7] 162)
   clear hs2 hen
   rw[show ait ⟨a0,a1,a2,a3,a4,a5,a6,a7⟩=.agg #[.int .i64 a0,.int .i64 a1,.int .i64 a2,.int .i64 a3,.int .i64 a4,.int .i64 a5,.int .i64 a6,.int .i64 a7] from rfl]
   obtain⟨fn,tmps,assign,body,hy,hR⟩:=hyy _ hJ3 hss
   have hy':(Instr.yield l #[.agg #[.int .i64 a0,.int .i64 a1,.int .i64 a2,.int .i64 a3,.int .i64 a4,.int .i64 a5,.int .i64 a6,.int .i64 a7]]).run Tryz.prog (w2.alloc (.cells #[.int .i64 a0,.int .i64 a1,.int .i64 a2,.int .i64 a3,.int .i64 a4,.int .i64 a5,.int .i64 a6,.int .i64 a7] 162))=_:=hy
   clear hy hB3 hJ3 hg3 hJ2
   gi_wp2
   refine hR.mono ?_
   rintro e W3 (⟨rfl,hJ3,hk4⟩ | ⟨rfl,hJx⟩)
   ·gi_wp2
    have hrg3:=hrg2.of_walks (hk3.trans hk4)
    go_roundw
    case rel=>exact⟨_,cnt2,xs,hrg3,by omega,hCs,hJ3⟩
    case measure=>rw[hrg3.left_eq,hrg.left_eq];exact hlt
   ·gi_wp2
    refine bodyPost_ret (results_none rfl _ _ _) rfl ?_
    exact⟨⟨_,rfl⟩,.inr ⟨xs,trivial,hJx⟩⟩
theorem axf (n:Nat)(hn:1≤n)(Bm b nn:Nat)(f:List Int→Option Value)(w:World)(hBm:Bm<w.heap.size)(hm:w.cell? ⟨Bm,0,none⟩=some (.map (some b)))(hown:MapR w b nn f):
  SeqStopsK Fence.wide n Tryz.prog 129 #[.pointer (some ⟨Bm,0,none⟩)] (fun x=> #[ait x]) KeepsWalks (fun ss=>(ss.Nodup∧ ∀r,r∈ss↔ako r.l∧(f r.l).isSome=true)∧ss.length≤nn) (fun _=>True) nn w:=by
 intro l J Jx W hW hJ _ hY h0
 obtain⟨D0,hown,hsz,h2⟩:=hown
 have hown':W.ownsMap Tryz.prog 162 ax7 b nn D0:=by
  have hbl:=hown.lt
  obtain⟨es,clock,hb,Ft,hs,hD⟩:=hown
  exact⟨es,clock,(hW.block b hbl).trans hb,Ft,hs,hD⟩
 refine(a3r n hn l Bm b nn D0 J Jx W hJ (by rw[hsz];exact hY) ((hW.cell (p:=⟨Bm,0,none⟩) hBm).trans hm) hown' h0).mono ?_
 rintro e W' ⟨hv,(⟨ss,⟨⟨left,hC,hl⟩,hlen⟩,hJ'⟩ | h)⟩
 ·exact⟨hv,.inl ⟨ss,⟨hC.done hl h2,hsz▸hlen⟩,hJ'⟩⟩
 ·exact⟨hv,.inr h⟩
def ado (ss:List R8):List Value:=(ss.map ahn).flatten
theorem aoe (ss:List R8):(ado ss).length=ss.length*8:=by
 induction ss with
 | nil=>rfl
 | cons a r ih=>simp[ado,ago] at ih⊢;omega
theorem aum (ss:List R8)(x:R8):ado (ss++[x])=ado ss++ahn x:=by simp[ado]
theorem a7x:(Tryz.prog.info? 162).map (fun i=>(i.zero,i.size,i.bytes))=some (some (.agg #[.int .i64 0,.int .i64 0,.int .i64 0,.int .i64 0,.int .i64 0,.int .i64 0,.int .i64 0,.int .i64 0]),8,64):=by kernel_rfl
theorem a1r (W:World)(r:R8): ∀j u,(ahn r)[j]? =some u→(W.alloc (.cells (ahn r).toArray 162)).cell? ((⟨W.heap.size,0,none⟩:Addr).add j)=some u:=by
 intro j u hu
 have hb:=Blk.new W 162 (ahn r).toArray
 have:=hb.cell j
 have e:(⟨W.heap.size,0,none⟩:Addr).add j=⟨W.heap.size,j,none⟩:=by
  unfold Addr.add
  split
  ·rename_i h;subst h;rfl
  ·simp
 rw[e,this]
 simpa using hu
theorem aox {W w1:World}{n₁ B:Nat}{t e:TypeId}{size:Nat}{v v':Value}{k m:Nat}{xs ys:List Value}{tmp:Obj}
  (hv:Boxed W B t v) (hB:B<n₁) (hrow:W.ownsRow n₁ e size v k xs) (hn₁:n₁≤W.heap.size)
  (hown':w1.ownsRow n₁ e size v' m ys) (hgrow:(W.alloc tmp).grownBy w1 v.ownBlock):
  Boxed w1 B t v∧Boxed (w1.setCell ⟨B,0,none⟩ v') B t v'∧(w1.setCell ⟨B,0,none⟩ v').ownsRow n₁ e size v' m ys∧KeepsOthers W (w1.setCell ⟨B,0,none⟩ v')∧Below B W (w1.setCell ⟨B,0,none⟩ v')∧KeepsWalks W (w1.setCell ⟨B,0,none⟩ v'):=by
 have hkeep: ∀(j:Nat) (t:TypeId) (cs:Array Value),some j≠v.ownBlock→Blk W j t cs→Blk w1 j t cs:=fun j t cs hne hj=>
  (hgrow.block j (by have:=hj.lt;simp;omega) hne).trans ((Below.heap_alloc W tmp j hj.lt).trans hj)
 have hv1:Boxed w1 B t v:=hkeep B t #[v] (fun e=>by have:=(aan hrow e.symm).1;omega) hv
 have hne:v'.ownBlock≠some B:=fun e=>by have:=(aan hown' e).1;omega
 refine⟨hv1,hv1.set v',hown'.kept (grownBy_setCell' w1 B v') (.inr hne),?_,?_,?_⟩
 ·refine((KeepsOthers.alloc W tmp).trans (KeepsOthers.of_grownBy hgrow fun j o ej hj=> ?_)).trans (KeepsOthers.setCell _ _ _)
  obtain⟨_,cs,f,h3⟩:=aan (hrow.alloc tmp) ej
  rw[h3] at hj;cases hj;rfl
 ·refine(((Below.refl B W).alloc (by omega) tmp).grown hgrow (by simp;omega) fun j ej=> ?_).setCell (p:=⟨B,0,none⟩) (Nat.le_refl _) v'
  have:=(aan hrow ej).1
  omega
 ·exact((KeepsWalks.alloc _ _).trans (KeepsWalks.of_grownBy hgrow (ownsRow_not_walk_a (hrow.alloc _)))).trans (KeepsWalks.setCell _ _ _)
set_option maxRecDepth 100000 in
set_option maxHeartbeats 2000000 in
theorem ar4 (n:Nat)(hn:2≤n)(lb:Array Value)(S:List R8→Prop)(N:Nat)(hN:N≤1048576)(w:World)(hseq:SeqStopsK Fence.wide (n-1) Tryz.prog 129 lb (fun x=> #[ait x]) KeepsWalks S (fun _=>True) N w):
  CallsIn Fence.wide n Tryz.prog 163 #[.slice none 0 0,.func (.func 129) #[] lb] w fun e w'=> ∃(v:Value) (ss:List R8),e=.returned v∧S ss∧w'.ownsRow w.heap.size 162 8 v ss.length (ado ss)∧Below w.heap.size w w':=by
 refine callsIn_of_wp_marks Tryz.func163 rfl trivial ?_ rfl
 simp only[Tryz.ntmps163,List.size_toArray,List.length_cons,List.length_nil,Nat.reduceAdd,Nat.reduceSub,Array.replicate_succ,Array.replicate_zero,List.push_toArray,List.append_toArray,List.nil_append,List.cons_append]
 gi_wp2
 obtain⟨h,hh⟩: ∃h,h=w.heap.size:=⟨_,rfl⟩
 obtain⟨W0,hW0⟩: ∃W0,W0=w.alloc (.cells #[.slice none 0 0] 167):=⟨_,rfl⟩
 have hs0:W0.heap.size=h+1:=by rw[hW0,hh];simp
 have b0:Boxed W0 h 167 (.slice none 0 0):=by rw[hW0,hh];exact Boxed.new w 167 _
 have hB0:Below h w W0:=by rw[hW0,hh];exact(Below.refl _ w).alloc (Nat.le_refl _) _
 rw[←hW0,←hh]
 have HH:Hid (h=w.heap.size):=hh
 clear hh hW0
 refine wpIn_rangeFunc_ownH (F:=Fence.wide) rfl (by omega) (gf:=129) (lb:=lb) rfl trivial (enters_of Tryz.func129 (by kernel_rfl) rfl)
  hseq (fun h k=>h.trans k) (fun W l o o' hl h1 h2 h3=>KeepsWalks.putObj _ h1 h3) (HH.out▸hB0) (fun _=>rfl)
  (fun pre W=>(∃v,Boxed W h 167 v∧W.ownsRow (h+1) 162 8 v pre.length (ado pre)∧True)∧Below h w W)
  (fun c pre W=>False)
  (OwnFrom.and (Own.from (holdsRow_own (h+1) h 167 162 8 (fun pre:List R8=>pre.length) (fun pre=>ado pre) (fun _ _=>True)) _) (ownFrom_below (by rw[HH.out];exact Nat.le_refl _) (by omega)))
  (fun c=>fun _ _ _ _ h _ _=>h)
  ⟨⟨_,b0,World.ownsRow_nil _ _ _ _,trivial⟩,hB0⟩
  (fun x a' W=> ∃g,h+1≤g∧Blk W g 162 (ahn x).toArray∧a'= {tmps:= #[.slice none 0 0,.func (.func 129) #[] lb,.pointer (some ⟨h,0,none⟩),undef,.slice none 0 0,.pointer (some ⟨g,0,none⟩),.func (.func 129) #[] lb,ait x,undef,undef,undef,undef,undef],defers:=[]}) ?Ax ?assign ?body ?done ?stop
 case Ax=>
  intro x a' _ A B row ⟨g,hg1,hg2,e⟩ hg hr
  refine⟨g,hg1,(hg.block g hg2.lt (fun e'=> ?_)).trans hg2,e⟩
  obtain⟨_,o,ho,hc⟩:=hr g e'.symm
  rw[show A.heap[g]? =_ from hg2] at ho
  cases ho
  cases hc
 case assign=>
  intro l pre x W K hI hK
  obtain⟨a0,a1,a2,a3,a4,a5,a6,a7⟩:=x
  simp only[ait,ahn,R8.l]
  have hB:=Blk.new W 162 #[.int .i64 a0,.int .i64 a1,.int .i64 a2,.int .i64 a3,.int .i64 a4,.int .i64 a5,.int .i64 a6,.int .i64 a7]
  have hsz:h+1≤W.heap.size:=by
   obtain⟨⟨v,hv,_⟩,_⟩:=hI
   exact Blk.lt (show Blk W h 167 #[v] from hv)
  gi_wp2
  refine hK _ _ ((KeepsOthers.alloc _ _).from _) (KeepsWalks.alloc _ _) ?_ ⟨W.heap.size,hsz,hB,rfl⟩
  obtain⟨⟨v,hv,hrow,_⟩,hbel⟩:=hI
  exact⟨⟨v,hv.alloc _,hrow.alloc _,trivial⟩,hbel.alloc (by omega) _⟩
 case body=>
  rintro l pre x a' W hl _ ⟨⟨v,hv,hrow,_⟩,hbel⟩ ⟨g,hg1,hg2,rfl⟩ hlt
  obtain⟨i0,hi,hz0,hz1,hz2⟩:=info_parts a7x
  have hc:=hv.cell
  have hsz:h+1≤W.heap.size:=Blk.lt (show Blk W h 167 #[v] from hv)
  have hcell:=a1r W x
  have hxl:(ahn x).length=1*8:=rfl
  have hx1:=avx x
  have hsn:=aum pre x
  have hsn2:(pre++[x]).length=pre.length+1:=by simp
  obtain⟨a0,a1,a2,a3,a4,a5,a6,a7⟩:=x
  simp only[ait,ahn,R8.l,List.map_cons,List.map_nil] at hg2 hcell hxl hx1 hsn⊢
  generalize pre++[(⟨a0,a1,a2,a3,a4,a5,a6,a7⟩:R8)]=xs at hsn hsn2⊢
  have g0:=hg2.cell 0
  have g1:=hg2.cell 1
  have g2:=hg2.cell 2
  have g3:=hg2.cell 3
  have g4:=hg2.cell 4
  have g5:=hg2.cell 5
  have g6:=hg2.cell 6
  have g7:=hg2.cell 7
  simp at g0 g1 g2 g3 g4 g5 g6 g7
  gi_wp2_with (gi_at_builtin;refine wpListIn_append_own _ rfl _ _ 167 rfl (h+1) 162 i0 _ 8 64 Tryz.underlying167 hi hz0 hz1 hz2 rfl (by decide) _ _ _ rfl (hrow.alloc _) ⟨W.heap.size,0,none⟩ 1 1 _ rfl hxl hcell hx1 (by unfold maxLen;omega) (by omega) (by simp;omega) ?_;intro v' w1 hown' hgrow _;obtain⟨g',cap',rfl⟩:=ownsRow_succ hown';obtain⟨hv1,hv2,hr2,hk2,hb2,hkw2⟩:=aox hv (by omega) hrow hsz hown' hgrow;have hc1:=hv1.cell;have hf1:=hv1.frozen)
  exact⟨hk2.from _,hkw2,⟨_,hv2,by rw[hsn,hsn2];exact hr2,trivial⟩,hbel.trans hb2⟩
 case done=>
  rintro D ss W hD hS ⟨⟨v,hv,hrow,_⟩,hbel⟩ hK
  have hc:=hv.cell
  gi_wp2
  refine⟨by simp,.inl ⟨_,_,rfl,run_takeDeferred hK,?_⟩⟩
  refine⟨_,results_tmp rfl _ _ _,v,ss,rfl,hS,?_,?_⟩
  ·rw[←HH.out]
   exact aai (ownsRow_putObj hrow _ hK rfl) (by omega)
  ·rw[←HH.out]
   exact hbel.trans (belowK_b (w:=w) (by rw[HH.out];exact Nat.le_refl _) _ D _ _ (by rw[←HH.out];omega) hK rfl rfl)
 case stop=>
  rintro D c pre W hD _ h
  exact h.elim
set_option maxHeartbeats 1000000 in
theorem axy (n:Nat)(hn:3≤n)(lb:Array Value)(S:List R8→Prop)(N:Nat)(hN:N≤1048576)(w:World)(hseq:SeqStopsK Fence.wide (n-1-1) Tryz.prog 129 lb (fun x=> #[ait x]) KeepsWalks S (fun _=>True) N w):
  CallsIn Fence.wide n Tryz.prog 127 #[.func (.func 129) #[] lb] w fun e w'=> ∃(v:Value) (ss:List R8),e=.returned v∧S ss∧w'.ownsRow w.heap.size 162 8 v ss.length (ado ss)∧Below w.heap.size w w':=by
 refine callsIn_of_wp Tryz.func127 rfl trivial ?_ rfl
 simp only[Tryz.ntmps127,List.size_toArray,List.length_cons,List.length_nil,Nat.reduceAdd,Nat.reduceSub,Array.replicate_succ,Array.replicate_zero,List.push_toArray,List.append_toArray,List.nil_append,List.cons_append]
 gi_wp2
 refine⟨trivial,fun _=>by omega,(ar4 (n-1) (by omega) lb S N hN w hseq).mono ?_⟩
 rintro e w' ⟨v,ss,rfl,hS,hrow,hb⟩
 gi_wp2
 go_ret
 exact⟨v,ss,rfl,hS,hrow,hb⟩
end Go.Proofs.YtfhpgmlfgjfknaaGreatDoor
namespace Go.Proofs
open Go.Shelf
def Tryz.sortRow_ren:Go.Shelf.Ren:=⟨fun | 6=>128 | 15=>159 | 14=>164 | 28=>192 | 29=>193 | 20=>194 | 21=>195 | 22=>196 | 23=>197 | 24=>198 | 25=>199 | 26=>200 | 27=>201 | 46=>223 | 47=>219 | 48=>220 | 49=>224 | 50=>225 | 57=>240 | n=>n,fun | 22=>167 | 24=>162 | 25=>172 | 3=>3 | 39=>129 | 0=>0 | 53=>252 | 55=>254 | 4=>4 | 46=>246 | 45=>245 | 50=>183 | 5=>5 | 9=>9 | 66=>273 | 70=>277 | 76=>295 | 77=>190 | n=>n,fun | n=>n⟩
theorem Tryz.sortRow:Go.Proofs.SlLaysF0.n6 Tryz.prog Tryz.sortRow_ren:= {
 mixed:=by kernel_rfl
 f6:=⟨Tryz.f128.name,by decide,Tryz.func128.trans (congrArg some (by kernel_rfl))⟩
 f14:=⟨Tryz.f164.name,by decide,Tryz.func164.trans (congrArg some (by kernel_rfl))⟩
 f15:=Tryz.func159.trans (congrArg some (by kernel_rfl))
 f20:=⟨Tryz.f194.name,by decide,Tryz.func194.trans (congrArg some (by kernel_rfl))⟩
 f21:=⟨Tryz.f195.name,by decide,Tryz.func195.trans (congrArg some (by kernel_rfl))⟩
 f22:=⟨Tryz.f196.name,by decide,Tryz.func196.trans (congrArg some (by kernel_rfl))⟩
 f23:=⟨Tryz.f197.name,by decide,Tryz.func197.trans (congrArg some (by kernel_rfl))⟩
 f24:=⟨Tryz.f198.name,by decide,Tryz.func198.trans (congrArg some (by kernel_rfl))⟩
 f25:=⟨Tryz.f199.name,by decide,Tryz.func199.trans (congrArg some (by kernel_rfl))⟩
 f26:=⟨Tryz.f200.name,by decide,Tryz.func200.trans (congrArg some (by kernel_rfl))⟩
 f27:=⟨Tryz.f201.name,by decide,Tryz.func201.trans (congrArg some (by kernel_rfl))⟩
 f28:=Tryz.func192.trans (congrArg some (by kernel_rfl))
 f29:=Tryz.func193.trans (congrArg some (by kernel_rfl))
 f46:=⟨Tryz.f223.name,by decide,Tryz.func223.trans (congrArg some (by kernel_rfl))⟩
 f47:=Tryz.func219.trans (congrArg some (by kernel_rfl))
 f48:=Tryz.func220.trans (congrArg some (by kernel_rfl))
 f49:=⟨Tryz.f224.name,by decide,Tryz.func224.trans (congrArg some (by kernel_rfl))⟩
 f50:=⟨Tryz.f225.name,by decide,Tryz.func225.trans (congrArg some (by kernel_rfl))⟩
 f57:=⟨Tryz.f240.name,by decide,Tryz.func240.trans (congrArg some (by kernel_rfl))⟩
 t0:=Tryz.underlying0
 a0:=Tryz.isAgg0
 z0:=Tryz.sizeOf0
 v0:=Tryz.zeroValue0
 t3:=Tryz.underlying3
 a3:=Tryz.isAgg3
 z3:=Tryz.sizeOf3
 v3:=Tryz.zeroValue3
 t4:=Tryz.underlying4
 a4:=Tryz.isAgg4
 z4:=Tryz.sizeOf4
 v4:=Tryz.zeroValue4
 t5:=Tryz.underlying5
 a5:=Tryz.isAgg5
 z5:=Tryz.sizeOf5
 v5:=Tryz.zeroValue5
 t9:=Tryz.underlying9
 a9:=Tryz.isAgg9
 z9:=Tryz.sizeOf9
 v9:=Tryz.zeroValue9
 t22:=Tryz.underlying167
 a22:=Tryz.isAgg167
 z22:=Tryz.sizeOf167
 v22:=Tryz.zeroValue167
 t25:=Tryz.underlying172
 a25:=Tryz.isAgg172
 z25:=Tryz.sizeOf172
 v25:=Tryz.zeroValue172
 t39:=Tryz.underlying129
 a39:=Tryz.isAgg129
 z39:=Tryz.sizeOf129
 v39:=Tryz.zeroValue129
 t45:=Tryz.underlying245
 a45:=Tryz.isAgg245
 z45:=Tryz.sizeOf245
 v45:=Tryz.zeroValue245
 t46:=Tryz.underlying246
 a46:=Tryz.isAgg246
 z46:=Tryz.sizeOf246
 v46:=Tryz.zeroValue246
 t50:=Tryz.underlying183
 a50:=Tryz.isAgg183
 z50:=Tryz.sizeOf183
 v50:=Tryz.zeroValue183
 t53:=Tryz.underlying252
 a53:=Tryz.isAgg252
 z53:=Tryz.sizeOf252
 v53:=Tryz.zeroValue252
 t55:=Tryz.underlying254
 a55:=Tryz.isAgg254
 z55:=Tryz.sizeOf254
 v55:=Tryz.zeroValue254
 t66:=Tryz.underlying273
 a66:=Tryz.isAgg273
 z66:=Tryz.sizeOf273
 v66:=Tryz.zeroValue273
 t70:=Tryz.underlying277
 a70:=Tryz.isAgg277
 z70:=Tryz.sizeOf277
 v70:=Tryz.zeroValue277
 t76:=Tryz.underlying295
 a76:=Tryz.isAgg295
 z76:=Tryz.sizeOf295
 v76:=Tryz.zeroValue295
 t77:=Tryz.underlying190
 a77:=Tryz.isAgg190
 z77:=Tryz.sizeOf190
 v77:=Tryz.zeroValue190}
end Go.Proofs
