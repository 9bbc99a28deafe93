/- What dovetailref06.may does (a contract; nothing is claimed here). -/
import Derived.Test.YtpfkoldfbecdlaaGreatDoorJ22
namespace Go.Proofs.YtpfkoldfbecdlaaGreatDoor
open Go.RowKit Go.Vf Go.Maps
def a34 (x:Ent):Bool:=ac9 x.1&&an1 x.2
theorem au3 {α:Type}(f:α→Bool)(l:List α)(k:Nat)(h:k<l.length):(l.take (k+1)).all f=((l.take k).all f&&f l[k]):=by
 rw[List.take_succ_eq_append_getElem h,List.all_append]
 simp
set_option maxHeartbeats 4000000 in
set_option maxRecDepth 20000 in
theorem ase (p:List Int)(l:List El)(hp1:p.length≤4611686018427387904)(hl1:l.length≤4611686018427387904)(n₀:Nat)(pa:Option Addr)(pc:Nat)(ea:Option Addr)(ec:Nat)(w:World)(hn₀:n₀≤w.heap.size)(hp:Ints n₀ w (.slice pa p.length pc) p)(hl:Els n₀ w (.slice ea l.length ec) l):
  Calls Tryz.prog 72 #[.agg #[.slice pa p.length pc,.slice ea l.length ec]] w fun e w'=>e=.returned (.bool (a34 (p,l)))∧Below w.heap.size w w':=by
 obtain⟨R,hR⟩: ∃R,R=a34 (p,l):=⟨_,rfl⟩
 rw[←hR]
 have HR:Hid (R=(decide (1≤p.length)&&decide (p.length≤8)&&p.all abm&&(decide (1≤l.length)&&decide (l.length≤16)&&l.all aaf))):=hR
 have hpv: ∀j (hj:j<p.length),∃b off,pa=some ⟨b,off,none⟩∧b<n₀∧w.cell? ⟨b,off+j,none⟩=some (.int .i64 p[j]):=fun j hj=>by
  rcases hp with ⟨a',cap',e,e2⟩ | ⟨b,off,cap,e,hb,hc⟩
  ·rw[e2] at hj;exact absurd hj (by simp)
  ·cases e
   refine⟨b,off,rfl,hb,?_⟩
   rw[hc j hj]
   simp[hj]
 have hlv: ∀j (hj:j<l.length),∃b off,ea=some ⟨b,off,none⟩∧b<n₀∧w.cell? ⟨b,off+j*4,none⟩=some (.bool l[j].va)∧w.cell? ⟨b,off+j*4+1,none⟩=some (.int .i64 l[j].pr)∧w.cell? ⟨b,off+j*4+2,none⟩=some (.int .i64 l[j].se)∧w.cell? ⟨b,off+j*4+3,none⟩=some (.int .i64 l[j].te):=fun j hj=>by
  rcases hl with ⟨a',cap',e,e2⟩ | ⟨b,off,cap,e,hb,hc⟩
  ·rw[e2] at hj;exact absurd hj (by simp)
  ·cases e
   exact⟨b,off,rfl,hb,hc j hj⟩
 have HP:Hid (∀j (hj:j<p.length),∃b off,pa=some ⟨b,off,none⟩∧b<n₀∧w.cell? ⟨b,off+j,none⟩=some (.int .i64 p[j])):=hpv
 have HL:Hid (∀j (hj:j<l.length),∃b off,ea=some ⟨b,off,none⟩∧b<n₀∧w.cell? ⟨b,off+j*4,none⟩=some (.bool l[j].va)∧w.cell? ⟨b,off+j*4+1,none⟩=some (.int .i64 l[j].pr)∧w.cell? ⟨b,off+j*4+2,none⟩=some (.int .i64 l[j].se)∧w.cell? ⟨b,off+j*4+3,none⟩=some (.int .i64 l[j].te)):=hlv
 obtain⟨pn,hpn⟩: ∃pn,p.length=pn:=⟨_,rfl⟩
 obtain⟨ln,hln⟩: ∃ln,l.length=ln:=⟨_,rfl⟩
 have HPN:Hid (p.length=pn):=hpn
 have HLN:Hid (l.length=ln):=hln
 rw[hpn] at hp1⊢
 rw[hln] at hl1⊢
 rw[hpn,hln] at HR
 have hB0:=Blk.new w 128 #[.slice pa pn pc,.slice ea ln ec]
 have hb0:=(Below.refl w.heap.size w).alloc (Nat.le_refl _) (.cells #[.slice pa pn pc,.slice ea ln ec] 128)
 clear hR hpv hlv hpn hln hp hl
 go_enter Tryz.func72,Tryz.ntmps72
 go_upto_region 1 with fail
 generalize w.alloc (.cells #[.slice pa pn pc,.slice ea ln ec] 128)=W at hB0 hb0⊢
 have q0:W.cell? ⟨w.heap.size,0,none⟩=some (.slice pa pn pc):=hB0.cell 0
 have q1:W.cell? ⟨w.heap.size,1,none⟩=some (.slice ea ln ec):=hB0.cell 1
 by_cases h1:pn<1
 ·have t1:decide ((pn:Int)<1)=true:=decide_eq_true (by omega)
  have e:R=false:=by rw[HR.out,decide_eq_false (by omega: ¬1≤pn)];simp
  subst e
  go_wp2
  go_ret
  exact⟨rfl,hb0⟩
 have t1:decide ((pn:Int)<1)=false:=decide_eq_false (by omega)
 by_cases h2:8<pn
 ·have t2:decide ((8:Int)<(pn:Int))=true:=decide_eq_true (by omega)
  have e:R=false:=by rw[HR.out,decide_eq_false (by omega: ¬pn≤8)];simp
  subst e
  go_wp2
  go_ret
  exact⟨rfl,hb0⟩
 have t2:decide ((8:Int)<(pn:Int))=false:=decide_eq_false (by omega)
 by_cases h3:ln<1
 ·have t3:decide ((ln:Int)<1)=true:=decide_eq_true (by omega)
  have e:R=false:=by rw[HR.out,decide_eq_false (by omega: ¬1≤ln)];simp
  subst e
  go_wp2
  go_ret
  exact⟨rfl,hb0⟩
 have t3:decide ((ln:Int)<1)=false:=decide_eq_false (by omega)
 by_cases h4:16<ln
 ·have t4:decide ((16:Int)<(ln:Int))=true:=decide_eq_true (by omega)
  have e:R=false:=by rw[HR.out,decide_eq_false (by omega: ¬ln≤16)];simp
  subst e
  go_wp2
  go_ret
  exact⟨rfl,hb0⟩
 have t4:decide ((16:Int)<(ln:Int))=false:=decide_eq_false (by omega)
 have HR2:Hid (R=(p.all abm&&l.all aaf)):=by
  show _=_
  rw[HR.out,decide_eq_true (by omega:1≤pn),decide_eq_true (by omega:pn≤8),decide_eq_true (by omega:1≤ln),decide_eq_true (by omega:ln≤16)]
  simp
 clear HR
 go_wp2
 go_loopw [3] (fun i wr=> ∃k:Nat,k≤pn∧i=.int .i64 (k:Int)∧Hid ((p.take k).all abm=true)∧wr=W) (fun i _=>pn-(intOf i).toNat)
 case atStart=>exact⟨0,Nat.zero_le _,rfl,by show _=_;simp,rfl⟩
 case round=>
  obtain⟨k,hk,rfl,HT,rfl⟩:=hrel
  by_cases hlt:k<pn
  ·have hkp:k<p.length:=by rw[HPN.out];exact hlt
   obtain⟨b,off,hpa,hbn,hc⟩:=HP.out k hkp
   subst hpa
   have hcw:wr.cell? ⟨b,off+k,none⟩=some (.int .i64 p[k]):=(hb0.cell (p:=⟨b,off+k,none⟩) (show b<w.heap.size by omega)).trans hc
   have hip:=aqa p[k] wr
   have HS:Hid ((p.take (k+1)).all abm=abm p[k]):=by
    show _=_
    rw[au3 abm p k hkp,HT.out]
    simp
   have HM:Hid (abm p[k]=false→R=false):=fun h=>by
    rw[HR2.out,show p.all abm=false from by
     rw[List.all_eq_false]
     exact⟨p[k],List.getElem_mem hkp,by rw[h];decide⟩]
    simp
   generalize p[k]=z at hcw hip HS HM
   clear hc hkp HT
   go_wp2_with fail
   refine hip.mono ?_
   rintro e w1 ⟨rfl,rfl⟩
   cases hz:abm z with
   | false=>
    have e:=HM.out hz
    subst e
    go_wp2
    go_ret
    exact⟨rfl,hb0⟩
   | true=>
    have HS2:Hid ((p.take (k+1)).all abm=true):=by
     show _=_
     rw[HS.out,hz]
    clear HS HM hz
    go_wp2
    go_roundw
    case rel=>exact⟨k+1,by omega,by simp,HS2,trivial⟩
    case measure=>simp only[intOf];omega
  ·have HA:Hid (p.all abm=true):=by
    show _=_
    have h:=HT.out
    rw[List.take_of_length_le (by rw[HPN.out];omega)] at h
    exact h
   have HR3:Hid (R=l.all aaf):=by
    show _=_
    rw[HR2.out,HA.out]
    simp
   have tl:decide ((k:Int)<(pn:Int))=false:=decide_eq_false (by omega)
   clear HT HA HR2 HP
   go_wp2
   obtain⟨wo,hwo⟩: ∃wo,wo=wr:=⟨_,rfl⟩
   subst hwo
   go_loopw [4] (fun i wx=> ∃j:Nat,j≤ln∧i=.int .i64 (j:Int)∧Hid ((l.take j).all aaf=true)∧Below wo.heap.size wo wx) (fun i _=>ln-(intOf i).toNat)
   case atStart=>exact⟨0,Nat.zero_le _,rfl,by show _=_;simp,Below.refl _ _⟩
   case round=>
    obtain⟨j,hj,rfl,HT,hbk⟩:=hrel
    have hBl:=hB0.lt
    have q1b:wr.cell? ⟨w.heap.size,1,none⟩=some (.slice ea ln ec):=(hbk.cell (p:=⟨w.heap.size,1,none⟩) hBl).trans q1
    by_cases hlt2:j<ln
    ·have hjl:j<l.length:=by rw[HLN.out];exact hlt2
     obtain⟨b,off,hea,hbn,e0,e1,e2,e3⟩:=HL.out j hjl
     subst hea
     have up: ∀i,wr.cell? ⟨b,i,none⟩=w.cell? ⟨b,i,none⟩:=fun i=>(hbk.cell (p:=⟨b,i,none⟩) (show b<wo.heap.size by omega)).trans (hb0.cell (p:=⟨b,i,none⟩) (show b<w.heap.size by omega))
     have f0:=(up _).trans e0
     have f1:=(up _).trans e1
     have f2:=(up _).trans e2
     have f3:=(up _).trans e3
     have hrt:=ajz l[j] wr
     have HS:Hid ((l.take (j+1)).all aaf=aaf l[j]):=by
      show _=_
      rw[au3 aaf l j hjl,HT.out]
      simp
     have HM:Hid (aaf l[j]=false→R=false):=fun h=>by
      rw[HR3.out,List.all_eq_false]
      exact⟨l[j],List.getElem_mem hjl,by rw[h];decide⟩
     generalize l[j]=z at f0 f1 f2 f3 hrt HS HM
     obtain⟨va,pr,se,te⟩:=z
     dsimp only[elA] at f0 f1 f2 f3 hrt
     clear e0 e1 e2 e3 up hjl HT
     go_wp2_with fail
     refine hrt.mono ?_
     rintro e w2 ⟨rfl,hb2⟩
     have hbn2:Below wo.heap.size wo w2:=hbk.trans (hb2.mono hbk.size)
     clear hrt f0 f1 f2 f3
     cases hz:aaf ⟨va,pr,se,te⟩ with
     | false=>
      have e:=HM.out hz
      subst e
      go_wp2
      go_ret
      exact⟨rfl,hb0.trans (hbn2.mono hb0.size)⟩
     | true=>
      have HS2:Hid ((l.take (j+1)).all aaf=true):=by
       show _=_
       rw[HS.out,hz]
      clear HS HM hz hb2
      go_wp2
      go_roundw
      case rel=>exact⟨j+1,by omega,by simp,HS2,hbn2⟩
      case measure=>simp only[intOf];omega
    ·have e:R=true:=by
      rw[HR3.out]
      have h:=HT.out
      rw[List.take_of_length_le (by rw[HLN.out];omega)] at h
      exact h
     subst e
     have tl:decide ((j:Int)<(ln:Int))=false:=decide_eq_false (by omega)
     go_wp2
     go_ret
     exact⟨rfl,hb0.trans (hbk.mono hb0.size)⟩
end Go.Proofs.YtpfkoldfbecdlaaGreatDoor
