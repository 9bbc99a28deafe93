/- Contracts and lemmas (nothing is claimed here). -/
import Derived.Test.YtpfkoldfbecdlaaGreatDoorJ12
namespace Go.Proofs.YtpfkoldfbecdlaaGreatDoor
open Go.RowKit Go.Vf Go.Maps
theorem asl: ∀(us:List Nat),(∀q∈us,q≤1114111∧ada (q:Int)=true)→aa4 (us.map aad)=some (us.map fun q:Nat=>(q:Int)):=by
 intro us
 induction us with
 | nil=>intro _;rfl
 | cons a r ih=>
  intro h
  obtain⟨h1,h2⟩:=h a (by simp)
  rw[List.map_cons,aa4,agd h1 h2,ih (fun q hq=>h q (by simp[hq]))]
  rfl
theorem aqg (us:List Nat)(h: ∀q∈us,q≤1114111∧ada (q:Int)=true):ad7 (aav us)=some (us.map fun q:Nat=>(q:Int)):=by
 unfold ad7
 by_cases hn:us=[]
 ·subst hn;rfl
 ·rw[if_neg (a2f us hn),a0j us hn,asl us h]
theorem asw {u c:Nat}{us:List Nat}(hu:u≤1114111∧ada (u:Int)=true)(hc:c≤254)(h: ∀q∈us,q≤1114111∧ada (q:Int)=true):ace (aci u c us)=some ((u:Int),(c:Int),us.map fun q:Nat=>(q:Int)):=by
 have e:aci u c us=aad u++59::(Lib.itoa (c:Int)++59::aav us):=by unfold aci;simp
 unfold ace
 rw[e,acj 59 _ _ (fun x hx=>(abq hx).2.2.1),acj 59 _ _ (fun x hx=>((agq hc).2 x hx).2),ady 59 _ (fun x hx=>(alj us x hx).2)]
 simp only[aka,agd hu.1 hu.2,(agq hc).1,aqg us h]
theorem alc {m:PM}(h:adm m=true):ada m.point=true∧(∀q∈m.parts,ada q=true)∧0≤m.cls∧m.cls≤254:=by
 simp only[adm,Bool.and_eq_true,decide_eq_true_eq,List.all_eq_true] at h
 exact⟨h.2.1,h.1,h.2.2⟩
theorem asx {m:PM}(h:adm m=true):ace (adb m)=some (m.point,m.cls,m.parts):=by
 obtain⟨h1,h2,_⟩:=alc h
 obtain⟨u,c,us,rfl,hu,hc,hus,e⟩:=afy h
 rw[e]
 exact asw ⟨hu,h1⟩ hc fun q hq=>⟨hus q hq,h2 _ (List.mem_map.2 ⟨q,hq,rfl⟩)⟩
theorem aou {m:PM}(h:adm m=true):(∀b∈adb m,b≠10)∧aax (adb m)=false:=by
 obtain⟨u,c,us,rfl,hu,hc,hus,e⟩:=afy h
 rw[e]
 have e:aci u c us=aad u++59::(Lib.itoa (c:Int)++59::aav us):=by unfold aci;simp
 rw[e]
 refine⟨fun b hb=> ?_,?_⟩
 ·simp only[List.mem_append,List.mem_cons] at hb
  rcases hb with hb | rfl | hb | rfl | hb
  ·exact(abq hb).1
  ·decide
  ·exact((agq hc).2 b hb).1
  ·decide
  ·exact(alj us b hb).1
 ·cases hp:aad u with
  | nil=>exact absurd hp (ak6 u)
  | cons a r=>
   have:=(abq (u:=u) (b:=a) (by rw[hp];simp)).2.2.2
   simp[aax,this]
def an9:List PM→List UInt8
 | []=>[]
 | m::r=>adb m++r.flatMap fun x=>10::adb x
theorem aja {m:PM}{r:List PM}{f:Bool}{acc t:List UInt8}(h:abd (m::r) f acc=some t):m.parts.length≤65536∧((if f then acc else acc++[10])++adb m).length≤65536∧abd r false ((if f then acc else acc++[10])++adb m)=some t:=by
 rw[af5] at h
 by_cases h1:65536<m.parts.length
 ·rw[if_pos h1] at h;cases h
 ·rw[if_neg h1] at h
  by_cases h2:65536<((if f then acc else acc++[10])++adb m).length
  ·rw[if_pos h2] at h;cases h
  ·rw[if_neg h2] at h
   exact⟨by omega,by omega,h⟩
theorem ar0: ∀(l:List PM) (acc t:List UInt8),abd l false acc=some t→t=acc++l.flatMap fun x=>10::adb x:=by
 intro l
 induction l with
 | nil=>intro acc t h;simp[abd] at h;subst h;simp
 | cons m r ih=>
  intro acc t h
  have:=ih _ _ (aja h).2.2
  rw[this];simp
theorem au8: ∀(l:List PM) (f:Bool) (acc t:List UInt8),abd l f acc=some t→acc.length≤65536→t.length≤65536:=by
 intro l
 induction l with
 | nil=>intro f acc t h ha;simp[abd] at h;subst h;exact ha
 | cons m r ih=>
  intro f acc t h ha
  obtain⟨_,h2,h3⟩:=aja h
  exact ih _ _ _ h3 h2
theorem ajx {l:List PM}{t:List UInt8}(h:abd l true []=some t):t=an9 l∧t.length≤65536:=by
 refine⟨?_,au8 _ _ _ _ h (by simp)⟩
 cases l with
 | nil=>simp[abd] at h;subst h;rfl
 | cons m r=>
  have:=ar0 _ _ _ (aja h).2.2
  rw[this];rfl
theorem a0i: ∀(r:List PM) (m:PM),(∀x∈m::r,adm x=true)→aa5 10 (an9 (m::r))=(m::r).map adb:=by
 intro r
 induction r with
 | nil=>
  intro m h
  rw[an9,List.flatMap_nil,List.append_nil,ady 10 _ (aou (h m (by simp))).1]
  rfl
 | cons b t ih=>
  intro m h
  have e:an9 (m::b::t)=adb m++10::an9 (b::t):=by simp[an9]
  rw[e,acj 10 _ _ (aou (h m (by simp))).1,ih b (fun x hx=>h x (by simp at hx⊢;exact .inr hx))]
  rfl
def ae4:List PM→Int→List Mk
 | [],_=>[]
 | m::r,n=>⟨n+1,m.point,m.cls,m.parts⟩::ae4 r (n+1)
theorem agf: ∀(l:List PM) (n:Int),(ae4 l n).map Mk.point=l.map PM.point:=by
 intro l
 induction l with
 | nil=>intro n;rfl
 | cons m r ih=>intro n;simp[ae4,ih]
theorem atp: ∀(l:List PM) (ab:Int),acd l ab=true→(l.map PM.point).Pairwise (· < ·)∧ ∀m∈l,ab<m.point:=by
 intro l
 induction l with
 | nil=>intro ab _;simp
 | cons a r ih=>
  intro ab h
  unfold acd at h
  split at h
  ·cases h
  ·split at h
   ·obtain⟨h1,h2⟩:=ih _ h
    refine⟨?_,fun m hm=> ?_⟩
    ·rw[List.map_cons,List.pairwise_cons]
     refine⟨fun p hp=> ?_,h1⟩
     obtain⟨m,hm,rfl⟩:=List.mem_map.1 hp
     exact h2 m hm
    ·rcases List.mem_cons.1 hm with rfl | hm
     ·omega
     ·have:=h2 m hm;omega
   ·cases h
theorem aoz: ∀(l:List PM) (n:Int) (acc:List Mk),(∀m∈l,adm m=true)→(l.map PM.point).Pairwise (· < ·)→(∀a∈acc,∀m∈l,a.point≠m.point)→acc.length+l.length≤4096→aar (l.map adb) n acc=.ok (acc++ae4 l n):=by
 intro l
 induction l with
 | nil=>intro n acc _ _ _ _;simp[aar,ae4]
 | cons m r ih=>
  intro n acc h1 h2 h3 h4
  have hm:=h1 m (by simp)
  rw[List.map_cons,ali _ _ _ _ (aou hm).2,asx hm]
  have hany:acc.any (fun x=>x.point==m.point)=false:=by
   rw[List.any_eq_false]
   intro a ha
   simpa using h3 a ha m (by simp)
  rw[List.map_cons,List.pairwise_cons] at h2
  simp only[List.length_cons] at h4
  show(if _=true then _ else _)=_
  rw[if_neg (by rw[hany];simp),if_neg (by omega),ih _ _ (fun x hx=>h1 x (by simp[hx])) h2.2 ?_ (by simp;omega)]
  ·simp[ae4]
  ·intro a ha x hx
   rcases List.mem_append.1 ha with ha | ha
   ·exact h3 a ha x (by simp[hx])
   ·simp at ha;subst ha
    have:=h2.1 x.point (List.mem_map.2 ⟨x,hx,rfl⟩)
    show m.point≠x.point
    omega
theorem aix: ∀(l:List PM) (n:Int),(l.map PM.point).Pairwise (· < ·)→ ∀m∈l,∃k,aau (ae4 l n) m.point=some ⟨k,m.point,m.cls,m.parts⟩:=by
 intro l
 induction l with
 | nil=>intro n _ m hm;simp at hm
 | cons a r ih=>
  intro n h m hm
  rw[List.map_cons,List.pairwise_cons] at h
  unfold aau
  rw[ae4]
  rcases List.mem_cons.1 hm with rfl | hm
  ·exact⟨n+1,by simp⟩
  ·have hlt:=h.1 m.point (List.mem_map.2 ⟨m,hm,rfl⟩)
   rw[List.find?_cons_of_neg (by simp;omega)]
   exact ih (n+1) h.2 m hm
theorem aot (l:List PM)(n:Int)(h:(l.map PM.point).Pairwise (· < ·)):aai (ae4 l n)=l:=by
 unfold aai
 rw[agf,List.mergeSort_of_pairwise (h.imp (fun h=>by simp;omega)),List.map_map]
 conv=>rhs;rw[←List.map_id l]
 refine List.map_congr_left fun m hm=> ?_
 obtain⟨k,hk⟩:=aix l n h m hm
 simp[aab,aac,hk]
theorem aqd {l:List PM}{t:List UInt8}(h:adh l=.ok t):t=an9 l∧t.length≤65536∧aar (aa5 10 t) 0 []=.ok (ae4 l 0)∧(l.map PM.point).Pairwise (· < ·)∧l.length≤4096∧ ∀m∈l,adm m=true:=by
 unfold adh at h
 split at h
 ·cases h
 ·rename_i hlen
  split at h
  ·rename_i hc
   obtain⟨h1,_⟩:=atp _ _ hc
   have hmay:=ajr _ _ hc
   cases hw:abd l true [] with
   | none=>rw[hw] at h;cases h
   | some t'=>
    rw[hw] at h
    obtain rfl:t'=t:=by simpa using h
    obtain⟨e,hl⟩:=ajx hw
    refine⟨e,hl,?_,h1,by omega,hmay⟩
    rw[e]
    cases l with
    | nil=>rfl
    | cons m r=>rw[a0i r m hmay,aoz _ _ _ hmay h1 (by simp) (by simp at hlen⊢;omega)];rfl
  ·cases h
theorem aqr: ∀(C:List (List UInt8)) (ps:List Int),aa4 C=some ps→C=(ps.map Int.toNat).map aad:=by
 intro C
 induction C with
 | nil=>intro ps h;simp[aa4] at h;subst h;rfl
 | cons a r ih=>
  intro ps h
  unfold aa4 at h
  split at h
  ·cases h
  ·rename_i p hp
   split at h
   ·cases h
   ·rename_i q hq
    simp at h;subst h
    obtain⟨u,rfl,_,_,hs⟩:=adi hp
    rw[ih _ hq,hs]
    simp
theorem asp {s:List UInt8}{l:List Int}(h:ad7 s=some l):s=aav (l.map Int.toNat):=by
 unfold ad7 at h
 split at h
 ·rename_i e
  simp at h;subst h e
  rfl
 ·rename_i hne
  have:=aqr _ _ h
  have hc:=ai3 32 s
  rw[this] at hc
  cases hl:l.map Int.toNat with
  | nil=>
   rw[hl] at this
   exact absurd this (aif 32 s)
  | cons a r=>
   rw[hl] at hc
   rw[afz]
   simpa[List.flatMap_map] using hc
theorem av6 {s:List UInt8}{p k:Int}{l:List Int}(h:ace s=some (p,k,l)):s=adb ⟨p,k,l⟩:=by
 have hc:=ai3 59 s
 unfold ace aka at h
 split at h
 ·rename_i a b c hcut
  split at h
  ·cases h
  ·rename_i p' hp
   split at h
   ·cases h
   ·rename_i k' hk
    split at h
    ·cases h
    ·rename_i l' hl
     simp only[Option.some.injEq,Prod.mk.injEq] at h
     obtain⟨rfl,rfl,rfl⟩:=h
     obtain⟨u,rfl,_,_,ha⟩:=adi hp
     obtain⟨n,rfl,_,hb⟩:=aln hk
     have hcl:=asp hl
     rw[hcut] at hc
     rw[hc,ha,hb,hcl]
     simp[adb,aci]
 ·cases h
def aek (l:List PM):Nat:=(l.map fun m=>(adb m).length+1).sum
theorem alh: ∀(C:List (List UInt8)) (n:Int) (acc L:List Mk),aar C n acc=.ok L→aek (L.map akh)≤aek (acc.map akh)+(C.map (fun x=>x.length+1)).sum:=by
 intro C
 induction C with
 | nil=>
  intro n acc L h
  simp only[aar,Except.ok.injEq] at h
  subst h;simp
 | cons s r ih=>
  intro n acc L h
  rw[aar] at h
  split at h
  ·have:=ih _ _ _ h
   simp;omega
  ·split at h
   ·cases h
   ·rename_i p k l hm
    split at h
    ·cases h
    ·split at h
     ·cases h
     ·have h1:=ih _ _ _ h
      have e:aek ((acc++[(⟨n+1,p,k,l⟩:Mk)]).map akh)=aek (acc.map akh)+(s.length+1):=by
       have:=av6 hm
       simp[aek,akh,←this]
      rw[e] at h1
      simp;omega
theorem ar1: ∀(l:List PM) (f:Bool) (acc:List UInt8),(∀m∈l,m.parts.length≤65536)→(acc.length+(if f then 0 else 1)+aek l≤65537)→ ∃t,abd l f acc=some t∧t.length≤acc.length+(if f then 0 else 1)+aek l:=by
 intro l
 induction l with
 | nil=>intro f acc _ _;exact⟨acc,rfl,by omega⟩
 | cons m r ih=>
  intro f acc h1 h2
  have e:aek (m::r)=(adb m).length+1+aek r:=by simp[aek]
  rw[e] at h2
  have el:((if f then acc else acc++[10])++adb m).length=acc.length+(if f then 0 else 1)+(adb m).length:=by
   cases f<;>simp<;>omega
  obtain⟨t,ht,hl⟩:=ih false ((if f then acc else acc++[10])++adb m) (fun x hx=>h1 x (by simp[hx])) (by
   have:=h1
   simp only[Bool.false_eq_true,if_false,el];omega)
  refine⟨t,?_,?_⟩
  ·rw[af5,if_neg (by have:=h1 m (by simp);omega),if_neg (by rw[el];omega),ht]
  ·simp only[Bool.false_eq_true,if_false,el] at hl
   rw[e];omega
theorem a0p: ∀(l:List PM) (ab:Int),(l.map PM.point).Pairwise (· < ·)→(∀m∈l,ab<m.point)→(∀m∈l,adm m=true)→acd l ab=true:=by
 intro l
 induction l with
 | nil=>intro ab _ _ _;rfl
 | cons a r ih=>
  intro ab h1 h2 h3
  rw[List.map_cons,List.pairwise_cons] at h1
  unfold acd
  rw[if_neg (by have:=h2 a (by simp);omega),if_pos (h3 a (by simp))]
  exact ih _ h1.2 (fun m hm=>h1.1 _ (List.mem_map.2 ⟨m,hm,rfl⟩)) (fun m hm=>h3 m (by simp[hm]))
theorem a7i {m:Mk}(h:a07 m):adm (akh m)=true:=by
 obtain⟨h1,h2,h3,h4⟩:=h
 have e:m.parts.all ada=true:=List.all_eq_true.2 h2
 simp[adm,akh,h1,h3,h4,e]
theorem anb {a b:List PM}(h:a.Perm b):aek a=aek b:=(h.map _).sum_nat
theorem az1 {L L':List Mk}(h: ∀p,(aau L p).map akh=(aau L' p).map akh):aac L=aac L'∧aab L=aab L':=by
 refine⟨funext fun p=> ?_,funext fun p=> ?_⟩
 ·have:=h p
  unfold aac
  cases h1:aau L p with
  | none=>rw[h1] at this;cases h2:aau L' p with
   | none=>rfl
   | some m=>rw[h2] at this;simp at this
  | some m=>rw[h1] at this;cases h2:aau L' p with
   | none=>rw[h2] at this;simp at this
   | some m'=>
    rw[h2] at this
    simp[akh] at this
    simp[this]
 ·have:=h p
  unfold aab
  cases h1:aau L p with
  | none=>rw[h1] at this;cases h2:aau L' p with
   | none=>rfl
   | some m=>rw[h2] at this;simp at this
  | some m=>rw[h1] at this;cases h2:aau L' p with
   | none=>rw[h2] at this;simp at this
   | some m'=>
    rw[h2] at this
    simp[akh] at this
    simp[this]
theorem auo (us:List Nat):us.length≤(aav us).length:=by
 cases us with
 | nil=>simp
 | cons a r=>
  rw[afz]
  have h4: ∀(l:List Nat),l.length≤(l.flatMap fun x=>(32:UInt8)::aad x).length:=by
   intro l
   induction l with
   | nil=>simp
   | cons b t ih=>simp at ih⊢;omega
  have h5:=h4 r
  have h6:0<(aad a).length:=List.length_pos_iff.2 (ak6 a)
  rw[List.length_append];simp only[List.length_cons];omega
theorem a0y {t:List UInt8}{L:List Mk}{E:Int→List Int}(h:abb t=.ok (L,E)): ∃s L',adh (aai L)=.ok s∧s.length≤t.length∧abb s=.ok (L',E)∧aai L'=aai L∧aab L'=aab L:=by
 obtain⟨hlen,hl,hno,hsh,ord,ht,hord,he⟩:=ag2 h
 obtain⟨hok,hnd,h4096,hsum,_⟩:=abk hlen hl
 have hperm:=ae3 hnd
 have hrise:=adv hnd
 have hmay: ∀m∈aai L,adm m=true:=fun m hm=>by
  obtain⟨x,hx,rfl⟩:=List.mem_map.1 (hperm.subset hm)
  exact a7i (hok x hx)
 have hlens:aek (aai L)≤t.length+1:=by
  rw[anb hperm]
  have:=alh _ _ _ _ hl
  rw[apc] at this
  simpa[aek] using this
 have hpl: ∀m∈aai L,m.parts.length≤65536:=fun m hm=>by
  have h1:(adb m).length+1≤aek (aai L):=by
   obtain⟨a,b,e⟩:=List.append_of_mem hm
   rw[e];simp[aek];omega
  obtain⟨u,c,us,e1,hu,hc,hus,e2⟩:=afy (hmay m hm)
  have h2:=auo us
  have h3:m.parts.length=us.length:=by rw[e1];simp
  have h7:(aav us).length≤(adb m).length:=by rw[e2];simp[aci];omega
  omega
 obtain⟨s,hs,hsl⟩:=ar1 (aai L) true [] hpl (by simp;omega)
 have hs0:s.length≤t.length:=by
  have e:=(ajx hs).1
  cases hm:aai L with
  | nil=>rw[hm] at e;rw[e];simp[an9]
  | cons a r=>
   rw[hm] at e hlens
   have:s.length+1=aek (a::r):=by
    rw[e]
    have h4: ∀(l:List PM),(l.flatMap fun x=>(10:UInt8)::adb x).length=aek l:=by
     intro l
     induction l with
     | nil=>rfl
     | cons b t ih=>simp[aek] at ih⊢;omega
    simp only[an9,List.length_append,h4]
    simp[aek];omega
   omega
 have hpr:adh (aai L)=.ok s:=by
  unfold adh
  have hml:(aai L).length=L.length:=by rw[hperm.length_eq,List.length_map]
  rw[if_neg (by omega),if_pos (a0p _ _ hrise (fun m hm=>by
   have:=(alc (hmay m hm)).1
   unfold ada at this
   simp at this
   omega) hmay),hs]
 obtain⟨_,_,hlines,_,_,_⟩:=aqd hpr
 have hmk: ∀p,(aau (ae4 (aai L) 0) p).map akh=(aau L p).map akh:=fun p=>by
  rcases ajk (L:=L) p with ⟨h0,hn⟩ | ⟨m,hm,rfl,h0⟩
  ·rcases ajk (L:=ae4 (aai L) 0) p with ⟨h1,_⟩ | ⟨m,hm,rfl,h1⟩
   ·rw[h0,h1]
   ·have:m.point∈(ae4 (aai L) 0).map Mk.point:=List.mem_map.2 ⟨m,hm,rfl⟩
    rw[agf,aeh] at this
    exact absurd ((List.mergeSort_perm _ _).subset this) hn
  ·have hin:akh m∈aai L:=hperm.symm.subset (List.mem_map.2 ⟨m,hm,rfl⟩)
   obtain⟨k,hk⟩:=aix (aai L) 0 hrise (akh m) hin
   rw[h0,show m.point=(akh m).point from rfl,hk]
   rfl
 obtain⟨hparts,hclass⟩:=az1 hmk
 have hpts: ∀m∈ae4 (aai L) 0,∃x∈L,x.point=m.point:=fun m hm=>by
  have:m.point∈(ae4 (aai L) 0).map Mk.point:=List.mem_map.2 ⟨m,hm,rfl⟩
  rw[agf,aeh] at this
  obtain⟨x,hx,e⟩:=List.mem_map.1 ((List.mergeSort_perm _ _).subset this)
  exact⟨x,hx,e⟩
 obtain⟨E',M',hld,he'⟩:=ay0 (t:=s) (by omega) hlines (fun m hm=>by
  obtain⟨x,hx,e⟩:=hpts m hm
  rw[hparts,←e]
  exact hno x hx) (M:=ord.length+1) (fun N hN m hm=>by
  obtain⟨x,hx,e⟩:=hpts m hm
  rw[hparts,←e,←he N hN]
  exact hsh x hx)
 have hEE:E'=E:=funext fun p=>by
  rw[he' (M'+(ord.length+1)) (by omega),he (M'+(ord.length+1)) (by omega),hparts]
 exact⟨s,_,hpr,hs0,hEE▸hld,aot _ _ hrise,hclass⟩
end Go.Proofs.YtpfkoldfbecdlaaGreatDoor
namespace Go.Proofs.YtpfkoldfbecdlaaGreatDoor
open Go.RowKit Go.Vf
def akx:Value→Nat
 | .string b=>b.size
 | _=>0
theorem a1g: ∀d,d<16→(⟨#[48,49,50,51,52,53,54,55,56,57,65,66,67,68,69,70]⟩:ByteArray).extract d (d+1)=bsz [acw d]:=by decide
theorem asr: ∀(k n:Nat),aa9 (k+1) n=acw (n/16^k % 16)::aa9 k n:=by
 intro k
 induction k with
 | zero=>intro n;simp[aa9]
 | succ k ih=>
  intro n
  rw[aa9,ih,Nat.div_div_eq_div_mul,Nat.pow_succ,Nat.mul_comm 16]
  rfl
theorem ack (a b:List UInt8):bsz a++bsz b=bsz (a++b):=by
 apply ByteArray.ext
 simp
theorem aa8 (l:List UInt8):(bsz l).size=l.length:=by simp[ByteArray.size]
theorem aye {u j:Nat}(h4:4≤j)(h0:u/16^j=0)(hj:j≤4∨16^(j-1)≤u):aa9 j u=aad u:=by
 have hp:0<16^j:=Nat.pow_pos (by omega)
 have hlt:u<16^j:=by
  rcases Nat.lt_or_ge u (16^j) with h | h
  ·exact h
  ·have:=(Nat.le_div_iff_mul_le hp).2 (by omega:1*16^j≤u);omega
 have h1:=aco u j hlt (by omega)
 rw[aaw]
 congr 1
 rcases hj with hj | hj
 ·omega
 ·by_cases h5:j=4
  ·omega
  ·have: ¬(aa3 u).length≤j-1:=fun h=>by have:=ad0 u _ h;omega
   omega
theorem al3 {u n:Nat}{sb:ByteArray}(hu:u<16^6)(h:sb=bsz (aa9 sb.size u)∧n=u/16^sb.size∧(sb.size≤4∨16^(sb.size-1)≤u))(hc:sb.size<4∨0<n):
  (bsz [acw (n % 16)]++sb).size=sb.size+1∧sb.size+1≤6∧((bsz [acw (n % 16)]++sb)=bsz (aa9 (bsz [acw (n % 16)]++sb).size u)∧n/16=u/16^(bsz [acw (n % 16)]++sb).size∧((bsz [acw (n % 16)]++sb).size≤4∨16^((bsz [acw (n % 16)]++sb).size-1)≤u)):=by
 obtain⟨h1,h2,h3⟩:=h
 have hge:0<n→16^sb.size≤u:=fun h0=>by
  rcases Nat.lt_or_ge u (16^sb.size) with hl | hl
  ·rw[Nat.div_eq_of_lt hl] at h2;omega
  ·exact hl
 have e:bsz [acw (n % 16)]++sb=bsz (aa9 (sb.size+1) u):=by
  rw[asr,←h2]
  conv=>lhs;rw[h1]
  rw[ack]
  rfl
 have es:(bsz [acw (n % 16)]++sb).size=sb.size+1:=by rw[e,aa8,aca]
 rw[es]
 refine⟨rfl,?_,e,?_,?_⟩
 ·rcases hc with hc | hc
  ·omega
  ·have h5:=hge hc
   rcases Nat.lt_or_ge sb.size 6 with hl | hl
   ·omega
   ·have:=Nat.pow_le_pow_right (show 0<16 by omega) hl;omega
 ·rw[h2,Nat.div_div_eq_div_mul,Nat.pow_succ]
 ·rcases hc with hc | hc
  ·exact .inl (by omega)
  ·exact .inr (by rw[Nat.add_sub_cancel];exact hge hc)
set_option maxHeartbeats 1000000 in
theorem aeq (u:Nat)(hu:u<16^6)(w:World):Calls Tryz.prog 121 #[.int .i64 (u:Int)] w fun e w'=>e=.returned (.string (bsz (aad u)))∧w=w':=by
 have HU:Hid (u<16^6):=hu
 have hu':u<16777216:=hu
 clear hu
 go_enter Tryz.func121,Tryz.ntmps121
 go_wp2_with fail
 go_loopw [0,3] (fun x v wr=> ∃(n:Nat) (sb:ByteArray),x=.int .i64 (n:Int)∧v=.string sb∧sb.size≤6∧n<16777216∧Hid (sb=bsz (aa9 sb.size u)∧n=u/16^sb.size∧(sb.size≤4∨16^(sb.size-1)≤u))∧wr=w) (fun _ v _=>7-akx v)
 case atStart=>exact⟨u,⟨#[]⟩,rfl,rfl,by decide,hu',⟨rfl,by simp[ByteArray.size],.inl (by decide)⟩,rfl⟩
 case round=>
  obtain⟨n,sb,rfl,rfl,hs6,hn,HS,rfl⟩:=hrel
  have hd:=a1g (n % 16) (by omega)
  by_cases h4:sb.size<4
  ·go_wp2_with fail
   obtain⟨q1,q2,q3⟩:=al3 HU.out HS.out (.inl h4)
   exact⟨⟨n/16,_,by simp,rfl,by omega,by omega,q3,trivial⟩,by simp only[akx];omega⟩
  ·by_cases h0:n=0
   ·subst h0
    go_wp2_with fail
    go_ret
    have hS:=HS.out
    have e:bsz (aad u)=sb:=by
     conv=>rhs;rw[hS.1]
     rw[aye (by omega) hS.2.1.symm hS.2.2]
    exact⟨by rw[e];rfl,rfl⟩
   ·have h0':0<n:=by omega
    go_wp2_with fail
    obtain⟨q1,q2,q3⟩:=al3 HU.out HS.out (.inr h0')
    exact⟨⟨n/16,_,by simp,rfl,by omega,by omega,q3,trivial⟩,by simp only[akx];omega⟩
end Go.Proofs.YtpfkoldfbecdlaaGreatDoor
namespace Go.Proofs.YtpfkoldfbecdlaaGreatDoor
open Go.RowKit Go.Vf Go.Maps
def awo (n:Int):Bool:=decide (0≤n)&&decide (n≤1114111)&&(decide (n<55296)||decide (57343<n))
theorem ah6 (n:Int):ada n=(awo n&& !ac1 n):=rfl
theorem afi (n:Int)(w:World):Calls Tryz.prog 104 #[.int .i64 n] w fun e w'=>e=.returned (.bool (ac1 n))∧w=w':=by
 by_cases h1:44032≤n
 ·by_cases h2:n≤55203
  ·go_enter Tryz.func104,Tryz.ntmps104
   go_wp2
   go_ret
   exact⟨by simp[ac1,h1,h2],rfl⟩
  ·go_enter Tryz.func104,Tryz.ntmps104
   go_wp2
   go_ret
   exact⟨by simp[ac1,h2],rfl⟩
 ·go_enter Tryz.func104,Tryz.ntmps104
  go_wp2
  go_ret
  exact⟨by simp[ac1];omega,rfl⟩
theorem afn (n:Int)(w:World):Calls Tryz.prog 106 #[.int .i64 n] w fun e w'=>e=.returned (.bool (awo n))∧w=w':=by
 by_cases h1:0≤n
 ·by_cases h2:n≤1114111
  ·by_cases h3:n<55296
   ·go_enter Tryz.func106,Tryz.ntmps106
    go_wp2
    go_ret
    exact⟨by simp[awo,h1,h2,h3],rfl⟩
   ·by_cases h4:57343<n
    ·go_enter Tryz.func106,Tryz.ntmps106
     go_wp2
     go_ret
     exact⟨by simp[awo,h1,h2,h4],rfl⟩
    ·go_enter Tryz.func106,Tryz.ntmps106
     go_wp2
     go_ret
     exact⟨by simp[awo];omega,rfl⟩
  ·go_enter Tryz.func106,Tryz.ntmps106
   go_wp2
   go_ret
   exact⟨by simp[awo];omega,rfl⟩
 ·go_enter Tryz.func106,Tryz.ntmps106
  go_wp2
  go_ret
  exact⟨by simp[awo];omega,rfl⟩
def ae8 (d:Nat):UInt8:=UInt8.ofNat (48+d)
def agt:Nat→Nat→List UInt8
 | 0,_=>[]
 | k+1,n=>ae8 (n/10^k % 10)::agt k n
theorem av1: ∀(k n:Nat),(agt k n).length=k:=by
 intro k
 induction k with
 | zero=>intro n;rfl
 | succ k ih=>intro n;simp[agt,ih]
theorem a4x {c j:Nat}(hc:c≤254)(h1:1≤j)(h0:c/10^j=0)(hj:j≤1∨10^(j-1)≤c):agt j c=Lib.itoa (c:Int):=by
 have h3:j≤3:=by
  rcases hj with h | h
  ·omega
  ·rcases Nat.lt_or_ge j 4 with hl | hl
   ·omega
   ·have:=Nat.pow_le_pow_right (show 0<10 by omega) (show 3≤j-1 by omega);omega
 rw[azl hc]
 unfold awn
 have hj':j=1∨j=2∨j=3:=by omega
 rcases hj' with rfl | rfl | rfl
 ·have:c<10:=by simp at h0;omega
  rw[if_pos this]
  simp[agt,ae8,Nat.mod_eq_of_lt this]
 ·have h5:10≤c∧c<100:=by simp at h0 hj;omega
  rw[if_neg (by omega),if_pos h5.2]
  simp[agt,ae8,show c/10 % 10=c/10 by omega]
 ·have h5:100≤c:=by simp at h0 hj;omega
  rw[if_neg (by omega),if_neg (by omega)]
  simp[agt,ae8,show c/100 % 10=c/100 by omega]
theorem at5 {u n:Nat}{sb:ByteArray}(hu:u≤254)(h:sb=bsz (agt sb.size u)∧n=u/10^sb.size∧(sb.size≤1∨10^(sb.size-1)≤u))(hc:sb.size=0∨0<n):
  (bsz [ae8 (n % 10)]++sb).size=sb.size+1∧sb.size+1≤3∧((bsz [ae8 (n % 10)]++sb)=bsz (agt (bsz [ae8 (n % 10)]++sb).size u)∧n/10=u/10^(bsz [ae8 (n % 10)]++sb).size∧((bsz [ae8 (n % 10)]++sb).size≤1∨10^((bsz [ae8 (n % 10)]++sb).size-1)≤u)):=by
 obtain⟨h1,h2,h3⟩:=h
 have hge:0<n→10^sb.size≤u:=fun h0=>by
  rcases Nat.lt_or_ge u (10^sb.size) with hl | hl
  ·rw[Nat.div_eq_of_lt hl] at h2;omega
  ·exact hl
 have e:bsz [ae8 (n % 10)]++sb=bsz (agt (sb.size+1) u):=by
  rw[agt,←h2]
  conv=>lhs;rw[h1]
  rw[ack]
  rfl
 have es:(bsz [ae8 (n % 10)]++sb).size=sb.size+1:=by rw[e,aa8,av1]
 rw[es]
 refine⟨rfl,?_,e,?_,?_⟩
 ·rcases hc with hc | hc
  ·omega
  ·have h5:=hge hc
   rcases Nat.lt_or_ge sb.size 3 with hl | hl
   ·omega
   ·have:=Nat.pow_le_pow_right (show 0<10 by omega) hl;omega
 ·rw[h2,Nat.div_div_eq_div_mul,Nat.pow_succ]
 ·rcases hc with hc | hc
  ·exact .inl (by omega)
  ·exact .inr (by rw[Nat.add_sub_cancel];exact hge hc)
theorem avg (w:World)(x:UInt8)(c:Nat):(convert 78 9 (.slice (some ⟨w.heap.size,0,none⟩) 1 c)).run Tryz.prog (w.alloc (.cells #[.int .u8 (x.toNat:Int)] 5))=.ok (.string (bsz [x])) (w.alloc (.cells #[.int .u8 (x.toNat:Int)] 5)):=by
 have hb:=Blk.new w 5 #[.int .u8 (x.toNat:Int)]
 have hc:=run_convert_bytes_arg (P:=Tryz.prog) (w.alloc (.cells #[.int .u8 (x.toNat:Int)] 5)) 78 5 Tryz.underlying78 Tryz.underlying5 w.heap.size 0 1 c [(x.toNat:Int)] (by simp) (fun i hi=>by
  obtain rfl:i=0:=by simpa using hi
  rw[hb.cell]
  simp) 9 Tryz.underlying9
 rw[hc]
 have e:strOfNums [(x.toNat:Int)]=bsz [x]:=apb (by rw[strOfNums_data];simp)
 rw[e]
set_option maxHeartbeats 1000000 in
set_option maxRecDepth 20000 in
theorem axt (u:Nat)(hu:u≤254)(w:World):Calls Tryz.prog 122 #[.int .i64 (u:Int)] w fun e w'=>e=.returned (.string (bsz (Lib.itoa (u:Int))))∧Below w.heap.size w w':=by
 go_enter Tryz.func122,Tryz.ntmps122
 go_wp2_with fail
 go_loopw [0,3] (fun x v wr=> ∃(n:Nat) (sb:ByteArray),x=.int .i64 (n:Int)∧v=.string sb∧sb.size≤3∧n≤254∧Hid (sb=bsz (agt sb.size u)∧n=u/10^sb.size∧(sb.size≤1∨10^(sb.size-1)≤u))∧Below w.heap.size w wr) (fun _ v _=>4-akx v)
 case atStart=>exact⟨u,⟨#[]⟩,rfl,rfl,by decide,hu,⟨rfl,by simp[ByteArray.size],.inl (by decide)⟩,Below.refl _ _⟩
 case round=>
  obtain⟨n,sb,rfl,rfl,hs6,hn,HS,hbel⟩:=hrel
  have hx:((ae8 (n % 10)).toNat:Int)=48+(n:Int) % 10:=by
   unfold ae8;rw[UInt8.toNat_ofNat'];omega
  have hone:=avg wr (ae8 (n % 10)) 1
  rw[hx] at hone
  clear hx
  have hb1:=hbel.alloc hbel.size (.cells #[.int .u8 (48+(n:Int) % 10)] 5)
  by_cases h0:sb.size=0
  ·obtain rfl:sb=⟨#[]⟩:=by
    apply ByteArray.ext
    exact Array.eq_empty_of_size_eq_zero h0
   go_wp2_with fail
   obtain⟨q1,q2,q3⟩:=at5 hu HS.out (.inl rfl)
   exact⟨⟨n/10,_,by simp,rfl,by omega,by omega,q3,hb1⟩,by simp only[akx];omega⟩
  ·have hemp:sb.toList.isEmpty=false:=by
    rw[ByteArray.toList_eq,List.isEmpty_eq_false_iff]
    intro e
    exact h0 (by rw[Lib.size_eq,e];rfl)
   by_cases hn0:n=0
   ·subst hn0
    clear hone hb1
    go_wp2_with fail
    go_ret
    have hS:=HS.out
    have e:bsz (Lib.itoa (u:Int))=sb:=by
     conv=>rhs;rw[hS.1]
     rw[a4x hu (by omega) hS.2.1.symm hS.2.2]
    exact⟨by rw[e];rfl,hbel⟩
   ·have hn':0<n:=by omega
    go_wp2_with fail
    obtain⟨q1,q2,q3⟩:=at5 hu HS.out (.inr hn')
    exact⟨⟨n/10,_,by simp,rfl,by omega,by omega,q3,hb1⟩,by simp only[akx];omega⟩
set_option maxHeartbeats 2000000 in
set_option maxRecDepth 20000 in
theorem aji (n₀:Nat)(m:PM)(a:Option Addr)(k cap:Nat)(w:World)(hn₀:n₀≤w.heap.size)(hin:Ints n₀ w (.slice a k cap) m.parts)(hl:m.parts.length≤4611686018427387904):
  Calls Tryz.prog 70 #[.agg #[.int .i64 m.point,.int .i64 m.cls,.slice a k cap]] w fun e w'=>e=.returned (.bool (adm m))∧Below w.heap.size w w':=by
 obtain⟨pt,cl,ps⟩:=m
 simp only at hin hl⊢
 obtain⟨_,_,he⟩:=hin.val
 simp only[Value.slice.injEq] at he
 have HK:Hid (k=ps.length):=he.2.1
 clear he
 have hb0:=(Below.refl w.heap.size w).alloc (Nat.le_refl _) (.cells #[.int .i64 pt,.int .i64 cl,.slice a k cap] 120)
 have hbn:=Blk.new w 120 #[.int .i64 pt,.int .i64 cl,.slice a k cap]
 have hin0:Ints n₀ (w.alloc (.cells #[.int .i64 pt,.int .i64 cl,.slice a k cap] 120)) (.slice a k cap) ps:=hin.below hb0 hn₀
 have hsz0:w.heap.size<(w.alloc (.cells #[.int .i64 pt,.int .i64 cl,.slice a k cap] 120)).heap.size:=by simp
 go_enter Tryz.func70,Tryz.ntmps70
 go_upto_region 1 with fail
 generalize w.alloc (.cells #[.int .i64 pt,.int .i64 cl,.slice a k cap] 120)=W at hb0 hbn hin0 hsz0⊢
 have e0:W.cell? ⟨w.heap.size,0,none⟩=some (.int .i64 pt):=hbn.cell 0
 have e1:W.cell? ⟨w.heap.size,1,none⟩=some (.int .i64 cl):=hbn.cell 1
 have e2:W.cell? ⟨w.heap.size,2,none⟩=some (.slice a k cap):=hbn.cell 2
 have hP:=afn pt W
 have hS:=afi pt W
 cases h1:awo pt with
 | false=>
  rw[h1] at hP
  go_wp2_with fail
  refine hP.mono ?_
  rintro e w1 ⟨rfl,rfl⟩
  go_wp2_with fail
  go_ret
  exact⟨by simp[adm,ah6,h1],hb0⟩
 | true=>
  rw[h1] at hP
  cases h2:ac1 pt with
  | true=>
   rw[h2] at hS
   go_wp2_with fail
   refine hP.mono ?_
   rintro e w1 ⟨rfl,rfl⟩
   go_wp2_with fail
   refine hS.mono ?_
   rintro e w1 ⟨rfl,rfl⟩
   go_wp2_with fail
   go_ret
   exact⟨by simp[adm,ah6,h2],hb0⟩
  | false=>
   rw[h2] at hS
   have HM:Hid (adm ⟨pt,cl,ps⟩=(ps.all ada&&(decide (0≤cl)&&decide (cl≤254)))):=by
    show _=_
    simp[adm,ah6,h1,h2]
   by_cases c0:cl<0
   ·go_wp2_with fail
    refine hP.mono ?_
    rintro e w1 ⟨rfl,rfl⟩
    go_wp2_with fail
    refine hS.mono ?_
    rintro e w1 ⟨rfl,rfl⟩
    go_wp2_with fail
    go_ret
    exact⟨by rw[HM.out];simp;omega,hb0⟩
   ·by_cases c1:254<cl
    ·go_wp2_with fail
     refine hP.mono ?_
     rintro e w1 ⟨rfl,rfl⟩
     go_wp2_with fail
     refine hS.mono ?_
     rintro e w1 ⟨rfl,rfl⟩
     go_wp2_with fail
     go_ret
     exact⟨by rw[HM.out];simp;omega,hb0⟩
    ·have HM2:Hid (adm ⟨pt,cl,ps⟩=ps.all ada):=by
      show _=_
      rw[HM.out,show decide (0≤cl)=true by simp;omega,show decide (cl≤254)=true by simp;omega]
      simp
     have HW:Hid (W.heap.size=W.heap.size):=rfl
     clear HM
     go_wp2_with fail
     refine hP.mono ?_
     rintro e w1 ⟨rfl,rfl⟩
     go_wp2_with fail
     refine hS.mono ?_
     rintro e w1 ⟨rfl,rfl⟩
     go_wp2_with fail
     clear hP hS e0 e1
     go_loopw [3] (fun i wr=> ∃j:Nat,j≤k∧i=.int .i64 j∧Hid ((ps.drop j).all ada=ps.all ada)∧wr=W) (fun i _=>k-(intOf i).toNat)
     case atStart=>exact⟨0,by omega,rfl,by show _=_;simp,rfl⟩
     case round=>
      obtain⟨j,hj,rfl,HJ,rfl⟩:=hrel
      by_cases hlt:j<k
      ·have hltp:j<ps.length:=by rw[←HK.out];exact hlt
       obtain⟨b,off,hao,hnk,hblt,hcell⟩:=hin0.cell (fun e=>by rw[e] at hltp;simp at hltp)
       subst hao
       have hcj:=hcell j hltp
       rw[show ps[j]?.getD 0=ps[j] by simp[List.getElem?_eq_getElem hltp]] at hcj
       have hJ:=HJ.out
       rw[arm ps j hltp] at hJ
       generalize ps[j]=q at hcj hJ
       clear hcell hnk
       have hPq:=afn q wr
       have hSq:=afi q wr
       rw[ah6] at hJ
       have hkk:k≤4611686018427387904:=by rw[HK.out];exact hl
       cases g1:awo q with
       | false=>
        rw[g1] at hPq hJ
        have HF:Hid (ps.all ada=false):=hJ.symm
        clear hJ
        go_wp2_with fail
        refine hPq.mono ?_
        rintro e w1 ⟨rfl,rfl⟩
        go_wp2_with fail
        go_ret
        exact⟨by rw[HM2.out,HF.out];rfl,hb0⟩
       | true=>
        rw[g1] at hPq hJ
        cases g2:ac1 q with
        | true=>
         rw[g2] at hSq hJ
         have HF:Hid (ps.all ada=false):=hJ.symm
         clear hJ
         go_wp2_with fail
         refine hPq.mono ?_
         rintro e w1 ⟨rfl,rfl⟩
         go_wp2_with fail
         refine hSq.mono ?_
         rintro e w1 ⟨rfl,rfl⟩
         go_wp2_with fail
         go_ret
         exact⟨by rw[HM2.out,HF.out];rfl,hb0⟩
        | false=>
         rw[g2] at hSq hJ
         have HT:Hid ((ps.drop (j+1)).all ada=ps.all ada):=by
          show _=_
          rw[←hJ];simp
         clear hJ
         go_wp2_with fail
         refine hPq.mono ?_
         rintro e w1 ⟨rfl,rfl⟩
         go_wp2_with fail
         refine hSq.mono ?_
         rintro e w1 ⟨rfl,rfl⟩
         go_wp2_with fail
         go_roundw
         case rel=>exact⟨j+1,by omega,by go_num,HT,trivial⟩
         case measure=>simp only[intOf];omega
      ·have HT:Hid (ps.all ada=true):=by
        show _=_
        rw[←HJ.out,List.drop_of_length_le (by rw[←HK.out];omega)];rfl
       go_wp2_with fail
       go_ret
       exact⟨by rw[HM2.out,HT.out];rfl,hb0⟩
set_option maxHeartbeats 2000000 in
set_option maxRecDepth 20000 in
theorem ak2 (n₀ u c:Nat)(us:List Nat)(hu:u≤1114111)(hc:c≤254)(hus: ∀q∈us,q≤1114111)(hul:us.length≤65536)(a:Option Addr)(k cap:Nat)(w:World)(hn₀:n₀≤w.heap.size)(hin:Ints n₀ w (.slice a k cap) (us.map fun q:Nat=>(q:Int))):
  Calls Tryz.prog 71 #[.agg #[.int .i64 (u:Int),.int .i64 (c:Int),.slice a k cap]] w fun e w'=>e=.returned (.string (bsz (aci u c us)))∧Below w.heap.size w w':=by
 obtain⟨_,_,he⟩:=hin.val
 simp only[Value.slice.injEq,List.length_map] at he
 have HK:Hid (k=us.length):=he.2.1
 clear he
 have hb0:=(Below.refl w.heap.size w).alloc (Nat.le_refl _) (.cells #[.int .i64 (u:Int),.int .i64 (c:Int),.slice a k cap] 120)
 have hbn:=Blk.new w 120 #[.int .i64 (u:Int),.int .i64 (c:Int),.slice a k cap]
 have hin0:Ints n₀ (w.alloc (.cells #[.int .i64 (u:Int),.int .i64 (c:Int),.slice a k cap] 120)) (.slice a k cap) (us.map fun q:Nat=>(q:Int)):=hin.below hb0 hn₀
 have hsz0:w.heap.size<(w.alloc (.cells #[.int .i64 (u:Int),.int .i64 (c:Int),.slice a k cap] 120)).heap.size:=by simp
 go_enter Tryz.func71,Tryz.ntmps71
 go_upto_region 1 with fail
 generalize w.alloc (.cells #[.int .i64 (u:Int),.int .i64 (c:Int),.slice a k cap] 120)=W at hb0 hbn hin0 hsz0⊢
 have e0:W.cell? ⟨w.heap.size,0,none⟩=some (.int .i64 (u:Int)):=hbn.cell 0
 have e1:W.cell? ⟨w.heap.size,1,none⟩=some (.int .i64 (c:Int)):=hbn.cell 1
 have e2:W.cell? ⟨w.heap.size,2,none⟩=some (.slice a k cap):=hbn.cell 2
 have s0:(W.drew.cell? ⟨w.heap.size,0,none⟩=some (.int .i64 (u:Int))∧W.drew.cell? ⟨w.heap.size,1,none⟩=some (.int .i64 (c:Int)))∧Below W.heap.size W W.drew:=⟨⟨e0,e1⟩,Below.drew (Below.refl _ _)⟩
 have HKeep:Hid (∀x y:World,((x.cell? ⟨w.heap.size,0,none⟩=some (.int .i64 (u:Int))∧x.cell? ⟨w.heap.size,1,none⟩=some (.int .i64 (c:Int)))∧Below W.heap.size W x)→Below W.heap.size x y→((y.cell? ⟨w.heap.size,0,none⟩=some (.int .i64 (u:Int))∧y.cell? ⟨w.heap.size,1,none⟩=some (.int .i64 (c:Int)))∧Below W.heap.size W y)):=fun x y h1 h2=>⟨⟨(h2.cell (p:=⟨w.heap.size,0,none⟩) hsz0).trans h1.1.1,(h2.cell (p:=⟨w.heap.size,1,none⟩) hsz0).trans h1.1.2⟩,h1.2.trans h2⟩
 have HD:Hid (∀x:World,Calls Tryz.prog 121 #[.int .i64 (u:Int)] x fun e w'=>e=.returned (.string (bsz (aad u)))∧x=w'):=fun x=>aeq u (by omega) x
 have HT:Hid (∀x:World,Calls Tryz.prog 122 #[.int .i64 (c:Int)] x fun e w'=>e=.returned (.string (bsz (Lib.itoa (c:Int))))∧Below x.heap.size x w'):=fun x=>axt c hc x
 obtain⟨PU,hpu⟩: ∃PU,bsz (aad u)=PU:=⟨_,rfl⟩
 obtain⟨IC,hic⟩: ∃IC,bsz (Lib.itoa (c:Int))=IC:=⟨_,rfl⟩
 have hz1:PU.size≤6:=by rw[←hpu,aa8];exact(aeo u hu).1
 have hz2:IC.size≤21:=by rw[←hic,aa8];exact akj c hc
 rw[hpu] at HD
 rw[hic] at HT
 have HPRE:Hid ((PU++⟨#[59]⟩++IC++⟨#[59]⟩:ByteArray)=bsz (aad u++[59]++Lib.itoa (c:Int)++[59])):=by
  show _=_
  rw[←hpu,←hic,show(⟨#[59]⟩:ByteArray)=bsz [59] from rfl,ack,ack,ack]
 clear hpu hic
 go_cut [3] from 5 to 13 (fun v wx=>v=.string (PU++⟨#[59]⟩++IC++⟨#[59]⟩)∧Below W.heap.size W wx)
 case first=>
  go_region_held (fun x=>(x.cell? ⟨w.heap.size,0,none⟩=some (.int .i64 (u:Int))∧x.cell? ⟨w.heap.size,1,none⟩=some (.int .i64 (c:Int)))∧Below W.heap.size W x) (first | exact s0 | assumption | exact HKeep.out _ _ (by assumption) (ab3 (by assumption) (by assumption))) (first | (go_at_call 121;refine(HD.out _).mono ?_;rintro e w1 ⟨rfl,rfl⟩) | (go_at_call 122;refine(HT.out _).mono ?_;rintro e w2 ⟨rfl,hb2⟩))
  all_goals go_wp2_with fail
  all_goals go_meet
  all_goals exact⟨rfl,(by assumption:(_∧Below W.heap.size W _)).2⟩
 case rest=>
  obtain⟨rfl,hbc⟩:=hcut
  have hin1:=hin0.below hbc (show n₀≤W.heap.size by omega)
  have hbn1:=hbn.below hbc hbn.lt
  have f2:wc.cell? ⟨w.heap.size,2,none⟩=some (.slice a k cap):=hbn1.cell 2
  have hzz:(PU++⟨#[59]⟩++IC++⟨#[59]⟩:ByteArray).size≤29:=by
   simp only[ByteArray.size_append]
   rw[show (⟨#[59]⟩:ByteArray).size=1 from rfl]
   omega
  have HB:Hid (Below w.heap.size w wc):=hb0.trans (hbc.mono (by omega))
  have hcz:w.heap.size<wc.heap.size:=by have:=hbc.size;omega
  generalize (PU++⟨#[59]⟩++IC++⟨#[59]⟩:ByteArray)=pre at HPRE hzz⊢
  clear hz1 hz2 HD HT HKeep s0 e0 e1 e2 hbn hbn1 hin0 hbc
  have hkl:k≤65536:=by rw[HK.out];exact hul
  go_wp2_with fail
  go_loopw [3,4] (fun v i wr=> ∃(j:Nat) (sb:ByteArray),j≤k∧i=.int .i64 j∧v=.string sb∧Hid (sb=bsz (aad u++[59]++Lib.itoa (c:Int)++[59]++aav (us.take j)))∧sb.size≤29+7*j∧wr=wc) (fun _ i _=>k-(intOf i).toNat)
  case atStart=>exact⟨0,pre,by omega,rfl,rfl,by show _=_;rw[HPRE.out];simp[aav],by omega,rfl⟩
  case round=>
   obtain⟨j,sb,hj,rfl,rfl,HS,hsb,rfl⟩:=hrel
   by_cases hlt:j<k
   ·have hltp:j<us.length:=by rw[←HK.out];exact hlt
    have hltm:j<(us.map fun q:Nat=>(q:Int)).length:=by rw[List.length_map];exact hltp
    obtain⟨b,off,hao,hnk,hblt,hcell⟩:=hin1.cell (fun e=>by rw[e] at hltm;simp at hltm)
    subst hao
    have hcj:=hcell j hltm
    rw[show (us.map fun q:Nat=>(q:Int))[j]?.getD 0=((us[j]:Nat):Int) by simp[List.getElem?_eq_getElem hltp]] at hcj
    have hJ:=ahf us j hltp
    have hq:=hus _ (List.getElem_mem hltp)
    generalize us[j]=q at hcj hJ hq
    clear hcell hnk hltm
    have hdq:=aeq q (by omega) wr
    have hzq:=(aeo q hq).1
    obtain⟨PQ,hpq⟩: ∃PQ,bsz (aad q)=PQ:=⟨_,rfl⟩
    rw[hpq] at hdq
    have hz3:PQ.size≤6:=by rw[←hpq,aa8];exact hzq
    by_cases h0:j=0
    ·subst h0
     rw[Nat.add_zero] at hcj
     have HJ:Hid (sb++PQ=bsz (aad u++[59]++Lib.itoa (c:Int)++[59]++aav (us.take 1))):=by
      show _=_
      rw[hJ,HS.out,←hpq,ack];simp
     clear hpq hJ hzq
     go_wp2_with fail
     refine hdq.mono ?_
     rintro e w1 ⟨rfl,rfl⟩
     go_wp2_with fail
     go_roundw
     case rel=>exact⟨1,sb++PQ,by omega,by go_num,rfl,HJ,by rw[ByteArray.size_append];omega,trivial⟩
     case measure=>simp only[intOf];omega
    ·have HJ:Hid (sb++⟨#[32]⟩++PQ=bsz (aad u++[59]++Lib.itoa (c:Int)++[59]++aav (us.take (j+1)))):=by
      show _=_
      rw[hJ,HS.out,←hpq,show(⟨#[32]⟩:ByteArray)=bsz [32] from rfl,ack,ack,if_pos (by omega)];simp
     clear hpq hJ hzq
     go_wp2_with fail
     refine hdq.mono ?_
     rintro e w1 ⟨rfl,rfl⟩
     go_wp2_with fail
     go_roundw
     case rel=>exact⟨j+1,sb++⟨#[32]⟩++PQ,by omega,by go_num,rfl,HJ,by rw[ByteArray.size_append,ByteArray.size_append,show(⟨#[32]⟩:ByteArray).size=1 from rfl];omega,trivial⟩
     case measure=>simp only[intOf];omega
   ·have HE:Hid (bsz (aci u c us)=sb):=by
     show _=_
     have:=HS.out
     rw[List.take_of_length_le (by rw[←HK.out];omega)] at this
     rw[this];rfl
    go_wp2_with fail
    go_ret
    exact⟨by rw[HE.out];rfl,HB.out⟩
end Go.Proofs.YtpfkoldfbecdlaaGreatDoor
