/- Contracts and lemmas (nothing is claimed here). -/
import Derived.Test.YtpfkoldfbecdlaaGreatDoorJ7
import Derived.OwnWalk
import Derived.Shelf.SlSortCmp.Kit1
import Derived.Sort.WalkA
import Derived.Sort.WalkB2
import Derived.Sort.WalkB12
import Derived.Deep.LoopGhost
import Derived.BigRegion
namespace Go.Proofs.YtpfkoldfbecdlaaGreatDoor
open Go.RowKit Go.Vf Go.Maps
def abz (E:Int→List Int)(l:List Int):List Int:=l.flatMap (ab2 E)
theorem DataAt.plen {w:World}{bd:Nat}{L:List Mk}{E:Int→List Int}(h:DataAt w bd L E)(p:Int):(ab2 E p).length≤57∧0<(ab2 E p).length:=by
 unfold ab2
 cases hs:ac1 p with
 | false=>have:=h.elen p;simp;omega
 | true=>
  simp only[if_true]
  obtain⟨_,h3,h2⟩:=ah9 hs
  have: ∀ls:List Int,(ls.flatMap (aak E)).length≤19*ls.length∧ls.length≤(ls.flatMap (aak E)).length:=by
   intro ls
   induction ls with
   | nil=>simp
   | cons x r ih=>have:=h.elen x;simp only[List.flatMap_cons,List.length_append,List.length_cons];omega
  have:=this (ado p)
  omega
set_option maxHeartbeats 4000000 in
set_option maxRecDepth 20000 in
theorem apa (bd:Nat)(L:List Mk)(E:Int→List Int)(a:Option Addr)(kp cap:Nat)(ps:List Int)(w:World)(hps: ∀q∈ps,InI q)(hd:DataAt w bd L E)(hin:Ints w.heap.size w (.slice a kp cap) ps)(hkp:kp=ps.length)(hkl:(abz E ps).length≤68719476736)(hkl2:kp≤68719476736):
  Calls Tryz.prog 134 #[.pointer (some ⟨bd,0,none⟩),.slice a kp cap] w fun e w'=> ∃g k' c',e=.returned (.slice (some ⟨g,0,none⟩) k' c')∧IOwn w' w.heap.size (.slice (some ⟨g,0,none⟩) k' c') (abz E ps)∧Below w.heap.size w w':=by
 generalize hR:abz E ps=R at hkl⊢
 have HR:Hid ([]++abz E ps=R):=hR
 have HKP:Hid (kp=ps.length):=hkp
 clear hR hkp
 obtain⟨i0,hi0,hz0,hsz0,hby0⟩:=info_parts awr
 have HI0:Hid (i0.bytes=8):=hby0
 clear hby0
 go_enter Tryz.func134,Tryz.ntmps134
 go_wp2_with (first | (at_make;refine wpList_make_own _ rfl _ _ 90 rfl w.heap.size 3 i0 (.int .i64 0) 1 Tryz.underlying90 hi0 hz0 hsz0 .i64 .i64 _ kp rfl rfl rfl (by rw[HI0.out];omega) (by unfold maxLen;omega) (Nat.le_refl _) ?_;intro w0 hown0 hgrow0))
 have hb0:Below w.heap.size w w0:=(Below.refl _ w).grown hgrow0 (Nat.le_refl _) (fun j hj=>by cases hj)
 have HOWN0:Aside (IOwn w0 w.heap.size (.slice (some ⟨w.heap.size,0,none⟩) 0 kp) []):=hown0
 clear hown0 hgrow0 hi0 hz0 hsz0 HI0
 go_wp2_with fail
 go_loopw [5,13] (fun v i wr=> ∃(k:Nat) (acc:List Int) (g kk cc:Nat),k≤kp∧i=.int .i64 k∧v=.slice (some ⟨g,0,none⟩) kk cc∧Aside (IOwn wr w.heap.size (.slice (some ⟨g,0,none⟩) kk cc) acc)∧Hid (acc++abz E (ps.drop k)=R)∧Below w.heap.size w wr) (fun _ i _=>kp-(intOf i).toNat)
 case atStart=>exact⟨0,[],w.heap.size,0,kp,by omega,rfl,rfl,HOWN0,by simpa using HR,hb0⟩
 case round=>
  clear HOWN0 hb0 HR
  obtain⟨k,acc,g,kk,cc,hk,rfl,rfl,HOWN,HK,hbel⟩:=hrel
  by_cases hlt:k<kp
  ·have hltp:k<ps.length:=by rw[←HKP.out];exact hlt
   have hdr:ps.drop k=ps[k]::ps.drop (k+1):=List.drop_eq_getElem_cons hltp
   obtain⟨bp,op,hao,hnk,hblt,hcell⟩:=(hin.below hbel (Nat.le_refl _)).cell (fun e=>by rw[e] at hltp;simp at hltp)
   have hcj:=hcell k hltp
   rw[show ps[k]?.getD 0=ps[k] by simp[List.getElem?_eq_getElem hltp]] at hcj
   have hqI:=hps _ (List.getElem_mem hltp)
   have hKK:=HK.out
   rw[hdr,show abz E (ps[k]::ps.drop (k+1))=ab2 E ps[k]++abz E (ps.drop (k+1)) from rfl,←List.append_assoc] at hKK
   generalize ps[k]=q at hcj hqI hKK
   subst hao
   have hddr:=hd.below hbel
   have HLK:Hid ((acc++ab2 E q).length≤R.length):=by show _≤_;rw[←hKK];exact(List.prefix_append _ _).length_le
   have HKK:Hid ((acc++ab2 E q)++abz E (ps.drop (k+1))=R):=hKK
   clear hcell hdr HK hKK hltp hnk
   go_wp2_with fail
   refine(ayl bd L E q _ hqI hddr).mono ?_
   rintro e w3 ⟨a3,k3,c3,rfl,hown3p,hbel3⟩
   have hown3:=aae HOWN.out hbel3
   have hsz3:w.heap.size≤w3.heap.size:=Nat.le_trans hbel.size hbel3.size
   obtain⟨av,cv,hv⟩:=IOwn.val HOWN.out
   have hkk:kk=acc.length:=by simpa using (Value.slice.inj hv).2.1
   have hint3:=hown3p.ints
   obtain⟨av3,cv3,hv3⟩:=hown3p.val
   have hk3:k3=(ab2 E q).length:=by simpa using (Value.slice.inj hv3).2.1
   have hL1:(acc++ab2 E q).length≤R.length:=HLK.out
   rw[List.length_append] at hL1
   have hpos:=hddr.plen q
   generalize ab2 E q=en at HKK HLK hint3 hk3 hL1 hpos
   have hen:en≠ []:=fun e=>by rw[e] at hpos;simp at hpos
   ·obtain⟨b3,o3,hao3,hnk3,hblt3,hcell3⟩:=hint3.cell hen
    subst hao3 hk3 hkk
    have HC3:Hid (∀j,j<en.length→w3.cell? ((⟨b3,o3,none⟩:Addr).add j)=some (.int .i64 (en[j]?.getD 0))):=fun j hj=>by
     rw[show (⟨b3,o3,none⟩:Addr).add j=⟨b3,o3+j,none⟩ by simp[Addr.add]];exact hcell3 j hj
    have hsum:acc.length+en.length≤1099511627776:=by omega
    have HOWN3:Aside (IOwn w3 w.heap.size (.slice (some ⟨g,0,none⟩) acc.length cc) acc):=hown3
    clear hcell3 hint3 hown3p hv hv3 HOWN hown3 hen hnk3 HLK
    go_wp2_with (first | (at_builtin;refine aam rfl _ _ rfl w.heap.size _ acc rfl HOWN3.out en ⟨b3,o3,none⟩ _ rfl HC3.out hsum hsz3 ?_;intro a4 c4 w4 hown4 hgr4 hnil4 hat4;obtain⟨g4,rfl,hg4,hcap4⟩:=hown4.some_of (by rw[List.length_append];omega)))
    have hb4:Below w.heap.size w3 w4:=(Below.refl _ w3).grown hgr4 hsz3 (fun j hj=>(aal HOWN3.out hj).1)
    have HOWN4:Aside (IOwn w4 w.heap.size (.slice (some ⟨g4,0,none⟩) (acc.length+en.length) c4) (acc++en)):=hown4
    clear hown4 hnil4 hat4 hcap4
    go_roundw
    case rel=>exact⟨k+1,acc++en,g4,acc.length+en.length,c4,by omega,by simp,by simp,HOWN4,HKK,(hbel.trans (hbel3.mono hbel.size)).trans hb4⟩
    case measure=>simp only[intOf];omega
  ·have hRR:R=acc:=by rw[←HK.out,List.drop_of_length_le (by rw[←HKP.out];omega)];simp[abz]
   clear HK
   go_wp2_with fail
   go_ret
   rw[hRR]
   exact⟨_,_,_,rfl,HOWN.out,hbel⟩
end Go.Proofs.YtpfkoldfbecdlaaGreatDoor
namespace Go.Vf
def SortedK (key:Int→Int)(l:List Int):Prop:=l.Pairwise (fun x y=>key x≤key y)
def AlikeK (key:Int→Int)(a b:List Int):Prop:= ∀k,a.filter (fun x=>key x==k)=b.filter (fun x=>key x==k)
theorem AlikeK.refl {key:Int→Int}(a:List Int):AlikeK key a a:=fun _=>rfl
theorem AlikeK.symm {key:Int→Int}{a b:List Int}(h:AlikeK key a b):AlikeK key b a:=fun k=>(h k).symm
theorem AlikeK.trans {key:Int→Int}{a b c:List Int}(h:AlikeK key a b)(g:AlikeK key b c):AlikeK key a c:=fun k=>(h k).trans (g k)
theorem AlikeK.append {key:Int→Int}{a b c d:List Int}(h:AlikeK key a b)(g:AlikeK key c d):AlikeK key (a++c) (b++d):=fun k=>by
 rw[List.filter_append,List.filter_append,h k,g k]
theorem AlikeK.mem {key:Int→Int}{a b:List Int}(h:AlikeK key a b){x:Int}(hx:x∈a):x∈b:=by
 have g:x∈a.filter (fun y=>key y==key x):=List.mem_filter.2 ⟨hx,by simp⟩
 rw[h (key x)] at g
 exact(List.mem_filter.1 g).1
theorem AlikeK.turn {key:Int→Int}{u v:List Int}(h: ∀x∈u,∀y∈v,key x≠key y):AlikeK key (u++v) (v++u):=fun k=>by
 rw[List.filter_append,List.filter_append]
 by_cases hu:u.filter (fun x=>key x==k)=[]
 ·rw[hu];simp
 ·have hv:v.filter (fun x=>key x==k)=[]:=by
   rw[List.filter_eq_nil_iff]
   intro y hy hk
   obtain⟨x,hx⟩:=List.exists_mem_of_ne_nil _ hu
   obtain⟨h1,h2⟩:=List.mem_filter.1 hx
   have e1:key x=k:=by simpa using h2
   have e2:key y=k:=by simpa using hk
   exact h x h1 y hy (e1.trans e2.symm)
  rw[hv];simp
theorem SortedK.append {key:Int→Int}{u v:List Int}(hu:SortedK key u)(hv:SortedK key v)(h: ∀x∈u,∀y∈v,key x≤key y):SortedK key (u++v):=
 List.pairwise_append.2 ⟨hu,hv,h⟩
theorem SortedK.left {key:Int→Int}{u v:List Int}(h:SortedK key (u++v)):SortedK key u:=(List.pairwise_append.1 h).1
theorem SortedK.right {key:Int→Int}{u v:List Int}(h:SortedK key (u++v)):SortedK key v:=(List.pairwise_append.1 h).2.1
theorem SortedK.across {key:Int→Int}{u v:List Int}(h:SortedK key (u++v)): ∀x∈u,∀y∈v,key x≤key y:=(List.pairwise_append.1 h).2.2
theorem SortedK.nil {key:Int→Int}:SortedK key []:=List.Pairwise.nil
theorem SortedK.one {key:Int→Int}{x:Int}:SortedK key [x]:=List.pairwise_singleton _ x
theorem SortedK.at {key:Int→Int}{l:List Int}(h:SortedK key l){i j:Nat}(hij:i≤j)(hj:j<l.length):key (l.getD i 0)≤key (l.getD j 0):=by
 rcases Nat.lt_or_eq_of_le hij with h1 | h1
 ·have hi:i<l.length:=by omega
  have:=List.pairwise_iff_getElem.1 h i j hi hj h1
  simpa[List.getD_eq_getElem?_getD,List.getElem?_eq_getElem hi,List.getElem?_eq_getElem hj] using this
 ·subst h1;exact Int.le_refl _
theorem acv {P A Q:List Int}{i:Nat}(h1:P.length≤i)(h2:i<P.length+A.length):(P++A++Q).getD i 0=A.getD (i-P.length) 0:=by
 rw[List.append_assoc]
 simp only[List.getD_eq_getElem?_getD]
 rw[List.getElem?_append_right h1,List.getElem?_append_left (by omega)]
theorem aos {A:List Int}{x:Int}(h:x∈A): ∃i,i<A.length∧A.getD i 0=x:=by
 obtain⟨i,hi,e⟩:=List.mem_iff_getElem.1 h
 exact⟨i,hi,by simp[List.getD_eq_getElem?_getD,List.getElem?_eq_getElem hi,e]⟩
theorem ahi {A:List Int}{i:Nat}(h:i<A.length):A.getD i 0∈A:=by
 simp[List.getD_eq_getElem?_getD,List.getElem?_eq_getElem h]
theorem ayv {key:Int→Int}{x:Int}{B1 B2:List Int}(hB:SortedK key (B1++B2))(h1: ∀y∈B1,key y<key x)(h2: ∀y∈B2,key x≤key y):
  SortedK key (B1++[x]++B2)∧AlikeK key ([x]++(B1++B2)) (B1++[x]++B2):=by
 refine⟨?_,?_⟩
 ·refine SortedK.append (SortedK.append hB.left SortedK.one ?_) hB.right ?_
  ·intro a ha b hb
   rw[List.mem_singleton] at hb
   have:=h1 a ha
   rw[hb];omega
  ·intro a ha b hb
   rcases List.mem_append.1 ha with ha | ha
   ·exact hB.across a ha b hb
   ·rw[List.mem_singleton] at ha;rw[ha];exact h2 b hb
 ·rw[←List.append_assoc]
  refine AlikeK.append (AlikeK.turn ?_) (AlikeK.refl _)
  intro a ha b hb
  rw[List.mem_singleton] at ha
  have:=h1 b hb
  rw[ha];omega
theorem av4 {key:Int→Int}{x:Int}{A1 A2:List Int}(hA:SortedK key (A1++A2))(h1: ∀y∈A1,key y≤key x)(h2: ∀y∈A2,key x<key y):
  SortedK key (A1++[x]++A2)∧AlikeK key (A1++A2++[x]) (A1++[x]++A2):=by
 refine⟨?_,?_⟩
 ·refine SortedK.append (SortedK.append hA.left SortedK.one ?_) hA.right ?_
  ·intro a ha b hb
   rw[List.mem_singleton] at hb
   rw[hb];exact h1 a ha
  ·intro a ha b hb
   rcases List.mem_append.1 ha with ha | ha
   ·exact hA.across a ha b hb
   ·rw[List.mem_singleton] at ha
    have:=h2 b hb
    rw[ha];omega
 ·rw[List.append_assoc,List.append_assoc]
  refine AlikeK.append (AlikeK.refl _) (AlikeK.turn ?_)
  intro a ha b hb
  rw[List.mem_singleton] at hb
  have:=h2 a ha
  rw[hb];omega
theorem aqj {key:Int→Int}{A1 A2 B1 B2 C1 C2:List Int}(hA:SortedK key (A1++A2))(hB:SortedK key (B1++B2))
  (hlo: ∀u∈A2,∀v∈B1,key v<key u) (hhi: ∀u∈A1,∀v∈B2,key u≤key v)
  (s1:SortedK key C1) (a1:AlikeK key (A1++B1) C1) (s2:SortedK key C2) (a2:AlikeK key (A2++B2) C2):
  SortedK key (C1++C2)∧AlikeK key (A1++A2++(B1++B2)) (C1++C2):=by
 refine⟨?_,?_⟩
 ·refine SortedK.append s1 s2 ?_
  intro x hx y hy
  rcases List.mem_append.1 (a1.symm.mem hx) with hx | hx<;>rcases List.mem_append.1 (a2.symm.mem hy) with hy | hy
  ·exact hA.across x hx y hy
  ·exact hhi x hx y hy
  ·have:=hlo y hy x hx;omega
  ·exact hB.across x hx y hy
 ·refine AlikeK.trans ?_ (AlikeK.append a1 a2)
  have e1:A1++A2++(B1++B2)=A1++((A2++B1)++B2):=by simp
  have e2:A1++B1++(A2++B2)=A1++((B1++A2)++B2):=by simp
  rw[e1,e2]
  refine AlikeK.append (AlikeK.refl _) (AlikeK.append (AlikeK.turn ?_) (AlikeK.refl _))
  intro x hx y hy
  have:=hlo x hx y hy
  omega
theorem as9 {key:Int→Int}{U V:List Int}{x y:Int}(hs:SortedK key (U++[y]++V))(hv: ∀v∈V,key x<key v)(hy:key x<key y):
  (∀v∈[y]++V,key x<key v)∧SortedK key (U++([y]++V))∧AlikeK key (U++[y]++[x]++V) (U++[x]++([y]++V)):=by
 refine⟨?_,by rw[←List.append_assoc];exact hs,?_⟩
 ·intro v h
  rcases List.mem_append.1 h with h | h
  ·rw[List.mem_singleton] at h;rw[h];exact hy
  ·exact hv v h
 ·have e1:U++[y]++[x]++V=U++(([y]++[x])++V):=by simp
  have e2:U++[x]++([y]++V)=U++(([x]++[y])++V):=by simp
  rw[e1,e2]
  refine AlikeK.append (AlikeK.refl _) (AlikeK.append (AlikeK.turn ?_) (AlikeK.refl _))
  intro a ha b hb
  rw[List.mem_singleton] at ha hb
  rw[ha,hb];omega
theorem alp {key:Int→Int}{U V:List Int}{x:Int}(hs:SortedK key (U++V))(hv: ∀v∈V,key x<key v)(hu: ∀u∈U,key u≤key x):
  SortedK key (U++[x]++V):=by
 refine SortedK.append (SortedK.append hs.left SortedK.one ?_) hs.right ?_
 ·intro a ha b hb
  rw[List.mem_singleton] at hb;rw[hb];exact hu a ha
 ·intro a ha b hb
  rcases List.mem_append.1 ha with ha | ha
  ·exact hs.across a ha b hb
  ·rw[List.mem_singleton] at ha
   have:=hv b hb
   rw[ha];omega
def CO (cls:Int→Int):List Int→Prop
 | []=>True
 | [_]=>True
 | x::y::t=>(cls y≠0→cls x≤cls y)∧CO cls (y::t)
def Alike0 (cls:Int→Int)(a b:List Int):Prop:= ∀k,a.filter (fun x=>cls x==0||cls x==k)=b.filter (fun x=>cls x==0||cls x==k)
theorem Alike0.refl {cls:Int→Int}(a:List Int):Alike0 cls a a:=fun _=>rfl
theorem Alike0.symm {cls:Int→Int}{a b:List Int}(h:Alike0 cls a b):Alike0 cls b a:=fun k=>(h k).symm
theorem Alike0.trans {cls:Int→Int}{a b c:List Int}(h:Alike0 cls a b)(g:Alike0 cls b c):Alike0 cls a c:=fun k=>(h k).trans (g k)
theorem Alike0.append {cls:Int→Int}{a b c d:List Int}(h:Alike0 cls a b)(g:Alike0 cls c d):Alike0 cls (a++c) (b++d):=fun k=>by
 rw[List.filter_append,List.filter_append,h k,g k]
theorem CO.tail {cls:Int→Int}{x:Int}{t:List Int}(h:CO cls (x::t)):CO cls t:=by
 cases t with
 | nil=>trivial
 | cons y t=>exact h.2
theorem CO.first {cls:Int→Int}: ∀ {t:List Int} {y x:Int} {r:List Int} {k:Int},CO cls (y::t)→t.filter (fun z=>cls z==0||cls z==k)=x::r→cls x≠0→cls y≤cls x:=by
 intro t
 induction t with
 | nil=>intro y x r k _ h _;simp at h
 | cons z t ih=>
  intro y x r k hc h hx
  by_cases hz:(cls z==0||cls z==k)=true
  ·rw[List.filter_cons_of_pos (p:=fun z=>cls z==0||cls z==k) hz] at h
   have e:=(List.cons.inj h).1
   rw[←e]
   rw[←e] at hx
   exact hc.1 hx
  ·rw[List.filter_cons_of_neg (p:=fun z=>cls z==0||cls z==k) hz] at h
   have h0:cls z≠0:=fun e=>hz (by simp[e])
   have g1:=hc.1 h0
   have g2:=ih hc.2 h hx
   omega
theorem an2 {cls:Int→Int}{b:List Int}(h:Alike0 cls [] b):b=[]:=by
 cases b with
 | nil=>rfl
 | cons y t=>
  have:=h (cls y)
  rw[List.filter_cons_of_pos (by simp)] at this
  simp at this
theorem CO.same {cls:Int→Int}: ∀ {a b:List Int},CO cls a→CO cls b→Alike0 cls a b→a=b:=by
 intro a
 induction a with
 | nil=>intro b _ _ h;exact(an2 h).symm
 | cons x s ih=>
  intro b ha hb h
  cases b with
  | nil=>exact absurd (an2 h.symm) (by simp)
  | cons y t=>
   have hxy:x=y:=by
    have hx:=h (cls x)
    have hy:=h (cls y)
    rw[List.filter_cons_of_pos (by simp)] at hx
    rw[List.filter_cons_of_pos (l:=t) (a:=y) (by simp)] at hy
    by_cases c1:cls x=0
    ·rw[List.filter_cons_of_pos (by simp[c1])] at hy
     exact(List.cons.inj hy).1
    by_cases c2:cls y=0
    ·rw[List.filter_cons_of_pos (l:=t) (by simp[c2])] at hx
     exact(List.cons.inj hx).1
    by_cases c3:cls x=cls y
    ·rw[List.filter_cons_of_pos (l:=t) (by simp[c3])] at hx
     exact(List.cons.inj hx).1
    exfalso
    rw[List.filter_cons_of_neg (l:=t) (by simp[c2];exact fun e=>c3 e.symm)] at hx
    rw[List.filter_cons_of_neg (l:=s) (by simp[c1];exact c3)] at hy
    have g1:=hb.first hx.symm c1
    have g2:=ha.first hy c2
    omega
   subst hxy
   congr 1
   refine ih ha.tail hb.tail (fun k=> ?_)
   have g:=h k
   by_cases hk:(cls x==0||cls x==k)=true
   ·rw[List.filter_cons_of_pos (p:=fun z=>cls z==0||cls z==k) hk,List.filter_cons_of_pos (p:=fun z=>cls z==0||cls z==k) hk] at g
    exact(List.cons.inj g).2
   ·rw[List.filter_cons_of_neg (p:=fun z=>cls z==0||cls z==k) hk,List.filter_cons_of_neg (p:=fun z=>cls z==0||cls z==k) hk] at g
    exact g
theorem CO.append {cls:Int→Int}: ∀ {u v:List Int},CO cls u→CO cls v→(∀x y,u.getLast? =some x→v.head? =some y→cls y≠0→cls x≤cls y)→CO cls (u++v):=by
 intro u
 induction u with
 | nil=>intro v _ hv _;exact hv
 | cons x s ih=>
  intro v hu hv h
  cases s with
  | nil=>
   cases v with
   | nil=>trivial
   | cons y t=>exact⟨h x y rfl rfl,hv⟩
  | cons z s=>
   refine⟨hu.1,?_⟩
   exact ih hu.2 hv (fun a b ha hb=>h a b (by rw[List.getLast?_cons_cons];exact ha) hb)
theorem SortedK.co {cls:Int→Int}: ∀ {l:List Int},SortedK cls l→CO cls l:=by
 intro l
 induction l with
 | nil=>intro _;trivial
 | cons x s ih=>
  intro h
  cases s with
  | nil=>trivial
  | cons y t=>exact⟨fun _=>(List.pairwise_cons.1 h).1 y (by simp),ih (List.pairwise_cons.1 h).2⟩
theorem AlikeK.alike0 {cls:Int→Int}{a b:List Int}(h:AlikeK cls a b)(hn: ∀x∈a,cls x≠0):Alike0 cls a b:=fun k=>by
 have hb: ∀x∈b,cls x≠0:=fun x hx=>hn x (h.symm.mem hx)
 have e: ∀l:List Int,(∀x∈l,cls x≠0)→l.filter (fun x=>cls x==0||cls x==k)=l.filter (fun x=>cls x==k):=fun l hl=>by
  refine List.filter_congr (fun x hx=> ?_)
  have:=hl x hx
  simp[this]
 rw[e a hn,e b hb]
 exact h k
structure FormOf (cls:Int→Int)(l X:List Int):Prop where
 co:CO cls X
 al:Alike0 cls l X
theorem FormOf.same {cls:Int→Int}{l X Y:List Int}(h:FormOf cls l X)(g:FormOf cls l Y):X=Y:=CO.same h.co g.co (h.al.symm.trans g.al)
structure Blocks (key:Int→Int)(bs:Nat)(d:List Int)(Bs:List (List Int))(R:List Int):Prop where
 is:d=Bs.flatten++R
 each: ∀B∈Bs,B.length=bs∧SortedK key B
 less:R.length<bs
 rest:SortedK key R
theorem aho {key:Int→Int}{bs:Nat}: ∀ {Bs:List (List Int)},(∀B∈Bs,B.length=bs∧SortedK key B)→Bs.flatten.length=Bs.length*bs:=by
 intro Bs
 induction Bs with
 | nil=>intro _;simp
 | cons B Bs ih=>
  intro h
  rw[List.flatten_cons,List.length_append,(h B (by simp)).1,ih (fun C hC=>h C (by simp[hC])),List.length_cons,Nat.add_mul]
  omega
theorem Blocks.done {key:Int→Int}{bs:Nat}{d:List Int}{Bs:List (List Int)}{R:List Int}(h:Blocks key bs d Bs R)(hn:d.length≤bs):SortedK key d:=by
 have e:d.length=Bs.length*bs+R.length:=by rw[h.is,List.length_append,aho h.each]
 have hb:0<bs:=Nat.lt_of_le_of_lt (Nat.zero_le _) h.less
 rcases Bs with _ | ⟨B,_ | ⟨C,Bs⟩⟩
 ·rw[h.is];simpa using h.rest
 ·have hR:R=[]:=List.length_eq_zero_iff.1 (by simp at e;omega)
  rw[h.is,hR];simpa using (h.each B (by simp)).2
 ·exfalso
  simp only[List.length_cons] at e
  have:2*bs≤(Bs.length+1+1)*bs:=Nat.mul_le_mul_right _ (by omega)
  omega
theorem ayj {p:Int→Prop}{P A Q:List Int}(h: ∀t,P.length≤t→t<P.length+A.length→p ((P++A++Q).getD t 0)): ∀x∈A,p x:=fun x hx=>by
 obtain⟨i,hi,e⟩:=aos hx
 have:=h (P.length+i) (by omega) (by omega)
 rw[acv (by omega) (by omega),Nat.add_sub_cancel_left,e] at this
 exact this
theorem aio {key:Int→Int}{A1 A2:List Int}(h:SortedK key (A1++A2)){j:Nat}(hj:j+1=A1.length): ∀x∈A1,key x≤key ((A1++A2).getD j 0):=fun x hx=>by
 obtain⟨i,hi,e⟩:=aos hx
 have g:=h.at (i:=i) (j:=j) (by omega) (by rw[List.length_append];omega)
 have e2:(A1++A2).getD i 0=x:=by
  rw[←e]
  simp only[List.getD_eq_getElem?_getD]
  rw[List.getElem?_append_left hi]
 rw[e2] at g
 exact g
theorem aip {key:Int→Int}{A1 A2:List Int}(h:SortedK key (A1++A2)){j:Nat}(hj:j=A1.length): ∀x∈A2,key ((A1++A2).getD j 0)≤key x:=fun x hx=>by
 obtain⟨i,hi,e⟩:=aos hx
 have g:=h.at (i:=j) (j:=A1.length+i) (by omega) (by rw[List.length_append];omega)
 have e2:(A1++A2).getD (A1.length+i) 0=x:=by
  rw[←e]
  simp only[List.getD_eq_getElem?_getD]
  rw[List.getElem?_append_right (by omega),Nat.add_sub_cancel_left]
 rw[e2] at g
 exact g
theorem a1u {key:Int→Int}{x:Int}{P B Q:List Int}{i:Nat}(hB:SortedK key B)(h1:P.length≤i)(h2:i≤P.length+B.length)
  (lo:P.length<i→key ((P++B++Q).getD (i-1) 0)<key x) (hi:i<P.length+B.length→key x≤key ((P++B++Q).getD i 0)):
  (∀y∈B.take (i-P.length),key y<key x)∧(∀y∈B.drop (i-P.length),key x≤key y):=by
 have hs:SortedK key (B.take (i-P.length)++B.drop (i-P.length)):=by rw[List.take_append_drop];exact hB
 refine⟨fun y hy=> ?_,fun y hy=> ?_⟩
 ·have hlen:0<(B.take (i-P.length)).length:=List.length_pos_of_mem hy
  rw[List.length_take] at hlen
  have g:=lo (by omega)
  rw[acv (by omega) (by omega)] at g
  have:=aio hs (j:=i-1-P.length) (by rw[List.length_take];omega) y hy
  rw[List.take_append_drop] at this
  omega
 ·have hlen:0<(B.drop (i-P.length)).length:=List.length_pos_of_mem hy
  rw[List.length_drop] at hlen
  have g:=hi (by omega)
  rw[acv (by omega) (by omega)] at g
  have:=aip hs (j:=i-P.length) (by rw[List.length_take];omega) y hy
  rw[List.take_append_drop] at this
  omega
theorem ayn {key:Int→Int}{x:Int}{P A Q:List Int}{i:Nat}(hA:SortedK key A)(h1:P.length≤i)(h2:i≤P.length+A.length)
  (lo:P.length<i→key ((P++A++Q).getD (i-1) 0)≤key x) (hi:i<P.length+A.length→key x<key ((P++A++Q).getD i 0)):
  (∀y∈A.take (i-P.length),key y≤key x)∧(∀y∈A.drop (i-P.length),key x<key y):=by
 have hs:SortedK key (A.take (i-P.length)++A.drop (i-P.length)):=by rw[List.take_append_drop];exact hA
 refine⟨fun y hy=> ?_,fun y hy=> ?_⟩
 ·have hlen:0<(A.take (i-P.length)).length:=List.length_pos_of_mem hy
  rw[List.length_take] at hlen
  have g:=lo (by omega)
  rw[acv (by omega) (by omega)] at g
  have:=aio hs (j:=i-1-P.length) (by rw[List.length_take];omega) y hy
  rw[List.take_append_drop] at this
  omega
 ·have hlen:0<(A.drop (i-P.length)).length:=List.length_pos_of_mem hy
  rw[List.length_drop] at hlen
  have g:=hi (by omega)
  rw[acv (by omega) (by omega)] at g
  have:=aip hs (j:=i-P.length) (by rw[List.length_take];omega) y hy
  rw[List.take_append_drop] at this
  omega
theorem a1t {key:Int→Int}{P A B Q:List Int}{a m b mid s lo hi:Nat}(hA:SortedK key A)(hB:SortedK key B)(ha:P.length=a)(hm:a+A.length=m)(hb:m+B.length=b)
  (hmid:mid=(a+b)/2) (hlo:lo=if mid<m then mid+m-b else a) (hhi:hi=if mid<m then mid else m) (h1:lo≤s) (h2:s≤hi)
  (g1:s<hi→key ((P++A++B++Q).getD (mid+m-1-s) 0)<key ((P++A++B++Q).getD s 0))
  (g2:lo<s→key ((P++A++B++Q).getD (s-1) 0)≤key ((P++A++B++Q).getD (mid+m-s) 0)):
  ∃A1 A2 B1 B2,A=A1++A2∧B=B1++B2∧a+A1.length=s∧m+B1.length=mid+m-s∧a≤s∧s≤m∧m≤mid+m-s∧mid+m-s≤b∧
   (∀u∈A2,∀v∈B1,key v<key u)∧(∀u∈A1,∀v∈B2,key u≤key v):=by
 have f1:a≤s:=by split at hlo<;>omega
 have f2:s≤m:=by split at hhi<;>omega
 have f3:m≤mid+m-s:=by split at hhi<;>omega
 have f4:mid+m-s≤b:=by split at hlo<;>omega
 have q1: ∀t,a≤t→t<m→(P++A++B++Q).getD t 0=A.getD (t-a) 0:=fun t h1 h2=>by
  rw[List.append_assoc (P++A)]
  rw[acv (by omega) (by omega),ha]
 have q2: ∀t,m≤t→t<b→(P++A++B++Q).getD t 0=B.getD (t-m) 0:=fun t h1 h2=>by
  rw[acv (by rw[List.length_append];omega) (by rw[List.length_append];omega),List.length_append,ha,hm]
 have hsA:SortedK key (A.take (s-a)++A.drop (s-a)):=by rw[List.take_append_drop];exact hA
 have hsB:SortedK key (B.take (mid-s)++B.drop (mid-s)):=by rw[List.take_append_drop];exact hB
 refine⟨A.take (s-a),A.drop (s-a),B.take (mid-s),B.drop (mid-s),(List.take_append_drop _ _).symm,(List.take_append_drop _ _).symm,?_,?_,f1,f2,f3,f4,?_,?_⟩
 ·rw[List.length_take];omega
 ·rw[List.length_take];omega
 ·intro u hu v hv
  have l1:0<(A.drop (s-a)).length:=List.length_pos_of_mem hu
  have l2:0<(B.take (mid-s)).length:=List.length_pos_of_mem hv
  rw[List.length_drop] at l1
  rw[List.length_take] at l2
  have g:=g1 (by split at hhi<;>omega)
  rw[q1 s (by omega) (by omega),q2 (mid+m-1-s) (by omega) (by omega)] at g
  have e1:=aip hsA (j:=s-a) (by rw[List.length_take];omega) u hu
  have e2:=aio hsB (j:=mid+m-1-s-m) (by rw[List.length_take];omega) v hv
  rw[List.take_append_drop] at e1 e2
  omega
 ·intro u hu v hv
  have l1:0<(A.take (s-a)).length:=List.length_pos_of_mem hu
  have l2:0<(B.drop (mid-s)).length:=List.length_pos_of_mem hv
  rw[List.length_take] at l1
  rw[List.length_drop] at l2
  have g:=g2 (by split at hlo<;>omega)
  rw[q1 (s-1) (by omega) (by omega),q2 (mid+m-s) (by omega) (by omega)] at g
  have e1:=aio hsA (j:=s-1-a) (by rw[List.length_take];omega) u hu
  have e2:=aip hsB (j:=mid+m-s-m) (by rw[List.length_take];omega) v hv
  rw[List.take_append_drop] at e1 e2
  omega
end Go.Vf
namespace Go.Vf
def aex (D:List Int)(i j:Nat):List Int:=(D.set i (D.getD j 0)).set j (D.getD i 0)
theorem ar5 (D:List Int)(i j:Nat):((D.toArray.setIfInBounds i D.toArray[j]!).setIfInBounds j D.toArray[i]!)=(aex D i j).toArray:=by
 have e: ∀k,D.toArray[k]! =D.getD k 0:=fun k=>by
  rw[List.getElem!_toArray,List.getD_eq_getElem?_getD,List.getElem!_eq_getElem?_getD];rfl
 rw[e,e,List.setIfInBounds_toArray,List.setIfInBounds_toArray];rfl
theorem aim {P M Q:List Int}{x y:Int}{i j:Nat}(hi:i=P.length)(hj:j=P.length+1+M.length):aex (P++[x]++M++[y]++Q) i j=P++[y]++M++[x]++Q:=by
 subst hi hj
 have e:P++[x]++M++[y]++Q=P++(x::(M++(y::Q))):=by simp
 have gi:(P++(x::(M++(y::Q)))).getD P.length 0=x:=by simp[List.getD_eq_getElem?_getD]
 have gj:(P++(x::(M++(y::Q)))).getD (P.length+1+M.length) 0=y:=by
  rw[List.getD_eq_getElem?_getD,List.getElem?_append_right (by omega),show P.length+1+M.length-P.length=M.length+1 from by omega]
  simp
 unfold aex
 rw[e,gi,gj,List.set_append_right _ _ (Nat.le_refl _),Nat.sub_self,List.set_cons_zero,List.set_append_right _ _ (by omega),show P.length+1+M.length-P.length=M.length+1 from by omega,List.set_cons_succ,List.set_append_right _ _ (Nat.le_refl _),Nat.sub_self,List.set_cons_zero]
 simp
theorem apu (D:List Int)(i j:Nat):(aex D i j).length=D.length:=by simp[aex]
def SwapAt (P U M V Q:List Int)(i:Nat)(D:List Int):Prop:=D=P++V.take i++U.drop i++M++U.take i++V.drop i++Q
theorem SwapAt.start {P U M V Q D:List Int}(h:D=P++U++M++V++Q):SwapAt P U M V Q 0 D:=by unfold SwapAt;rw[h];simp
theorem SwapAt.done {P U M V Q D:List Int}{n:Nat}(h:SwapAt P U M V Q n D)(hu:U.length=n)(hv:V.length=n):D=P++V++M++U++Q:=by
 unfold SwapAt at h
 rw[List.take_of_length_le (by omega),List.take_of_length_le (by omega),List.drop_of_length_le (by omega),List.drop_of_length_le (by omega)] at h
 rw[h];simp
theorem SwapAt.step {P U M V Q D:List Int}{n i a b:Nat}(h:SwapAt P U M V Q i D)(hu:U.length=n)(hv:V.length=n)(hi:i<n)(ha:P.length=a)(hb:a+n+M.length=b):SwapAt P U M V Q (i+1) (aex D (a+i) (b+i)):=by
 unfold SwapAt at h⊢
 have hiu:i<U.length:=by omega
 have hiv:i<V.length:=by omega
 have e:D=(P++V.take i)++[U[i]]++(U.drop (i+1)++M++U.take i)++[V[i]]++(V.drop (i+1)++Q):=by
  have e1:=List.drop_eq_getElem_cons hiu
  have e2:=List.drop_eq_getElem_cons hiv
  rw[h]
  generalize U.drop (i+1)=A at e1⊢
  generalize V.drop (i+1)=B at e2⊢
  rw[e1,e2];simp
 rw[e,aim (by rw[List.length_append,List.length_take];omega) (by simp only[List.length_append,List.length_take,List.length_drop];omega),←List.take_append_getElem hiu,←List.take_append_getElem hiv]
 simp
def RotAt (T P X Y Q D:List Int):Prop:=D=P++X++Y++Q∧T=P++Y++X++Q
theorem RotAt.left {T P X Y Q D:List Int}(h:RotAt T P X Y Q D)(j:Nat):
  D=P++X.take j++X.drop j++Y++Q∧RotAt T (P++Y) (X.drop j) (X.take j) Q (P++Y++X.drop j++X.take j++Q):=by
 obtain⟨h1,h2⟩:=h
 have e:=(List.take_append_drop j X).symm
 generalize X.take j=X1 at e⊢
 generalize X.drop j=X2 at e⊢
 exact⟨by rw[h1,e];simp,rfl,by rw[h2,e];simp⟩
theorem RotAt.right {T P X Y Q D:List Int}(h:RotAt T P X Y Q D)(j:Nat):
  D=P++X++Y.take j++Y.drop j++Q∧RotAt T P (Y.drop j) (Y.take j) (X++Q) (P++Y.drop j++Y.take j++X++Q):=by
 obtain⟨h1,h2⟩:=h
 have e:=(List.take_append_drop j Y).symm
 generalize Y.take j=Y1 at e⊢
 generalize Y.drop j=Y2 at e⊢
 exact⟨by rw[h1,e];simp,by simp,by rw[h2,e];simp⟩
end Go.Vf
namespace Go.Proofs.YtpfkoldfbecdlaaGreatDoor
open Go.Shelf Go.RowKit Go.Lib Go.Sort Go.Vf
def I64 (x:Int):Prop:= -9223372036854775808≤x∧x≤9223372036854775807
theorem afw (D:List Int)(k:Nat):D.toArray[k]! =D.getD k 0:=by
 rw[List.getElem!_toArray,List.getD_eq_getElem?_getD,List.getElem!_eq_getElem?_getD];rfl
theorem axy {D:List Int}{i j:Nat}(hi:i<D.length)(hj:j<D.length){x:Int}(h:x∈aex D i j):x∈D:=by
 unfold aex at h
 rcases List.mem_or_eq_of_mem_set h with h | h
 ·rcases List.mem_or_eq_of_mem_set h with h | h
  ·exact h
  ·rw[h];exact ahi hj
 ·rw[h];exact ahi hi
structure SL (w0:World)(blk off n:Nat)(D:List Int)(W:World):Prop where
 sw:SW (Value.int .i64) w0 blk off D.toArray W
 len:D.length=n
 int: ∀x∈D,I64 x
structure RowN (w0:World)(blk off n:Nat):Prop where
 row: ∃D0:List Int,D0.length=n∧Row1 (Value.int .i64) w0 blk off D0.toArray
variable {w0 W:World}{blk off n:Nat}{D:List Int}
theorem SL.c1 (h:SL w0 blk off n D W)(R:RowN w0 blk off n)(i:Nat)(hi:i<n):W.cell? ⟨blk,off+i,none⟩=some (.int .i64 (D.getD i 0)):=by
 obtain⟨D0,h0,r⟩:=R.row
 have:=h.sw.c1 r (by simp[h.len,h0]) i (by simp[h.len,hi])
 rw[afw] at this
 exact this
theorem SL.f1 (h:SL w0 blk off n D W)(R:RowN w0 blk off n)(i:Nat)(hi:i<n):W.frozen? ⟨blk,off+i,none⟩=false:=by
 obtain⟨D0,h0,r⟩:=R.row
 exact h.sw.f1 r (by simp[h.len,h0]) i (by simp[h.len,hi])
theorem SL.c2 (h:SL w0 blk off n D W)(R:RowN w0 blk off n)(i j:Nat)(hi:i<n)(hj:j<n)(v:Value): ∃u,(W.setCell ⟨blk,off+i,none⟩ v).cell? ⟨blk,off+j,none⟩=some u:=by
 obtain⟨D0,h0,r⟩:=R.row
 exact h.sw.c2 r (by simp[h.len,h0]) i j (by simp[h.len,hi]) (by simp[h.len,hj]) v
theorem SL.drewN (h:SL w0 blk off n D W)(q:Nat):SL w0 blk off n D (W.drewN q):=⟨h.sw.drewN q,h.len,h.int⟩
theorem SL.drew (h:SL w0 blk off n D W):SL w0 blk off n D W.drew:=h.drewN 1
theorem SL.cl (h:SL w0 blk off n D W)(R:RowN w0 blk off n)(i:Nat)(hi:i<n)(q:Nat):(W.drewN q).cell? ⟨blk,off+i,none⟩=some (.int .i64 (D.getD i 0)):=(h.drewN q).c1 R i hi
theorem SL.at (h:SL w0 blk off n D W)(i:Nat)(hi:i<n):I64 (D.getD i 0):=h.int _ (ahi (by rw[h.len];exact hi))
theorem SL.swapped (h:SL w0 blk off n D W)(R:RowN w0 blk off n)(i j:Nat)(hi:i<n)(hj:j<n):
  SL w0 blk off n (aex D i j) ((W.setCell ⟨blk,off+i,none⟩ (.int .i64 (D.getD j 0))).setCell ⟨blk,off+j,none⟩ (.int .i64 (D.getD i 0))).drew:=by
 obtain⟨D0,h0,r⟩:=R.row
 have:=h.sw.swapped r i j (by simp[h.len,hi]) (by simp[h.len,hj])
 unfold swp at this
 rw[ar5,afw,afw] at this
 exact⟨this,by rw[apu];exact h.len,fun x hx=>h.int x (axy (by rw[h.len];exact hi) (by rw[h.len];exact hj) hx)⟩
theorem SL.to {D':List Int}(h:SL w0 blk off n D W)(e:D=D'):SL w0 blk off n D' W:=e▸h
def ahs (key:Int→Int)(x y:Int):Int:=if key x<key y then -1 else if key y<key x then 1 else 0
theorem cmpK_lt {key:Int→Int}{x y:Int}:ahs key x y<0↔key x<key y:=by
 unfold ahs
 split
 ·simp[*]
 ·split<;>simp[*]
def api (g:Nat)(cb:Array Value)(key:Int→Int)(w0:World)(blk off n:Nat):Prop:=
 ∀W D,SL w0 blk off n D W→ ∀x y,I64 x→I64 y→Calls Tryz.prog g (#[.int .i64 x,.int .i64 y]++cb) W fun e w'=>e=.returned (.int .i64 (ahs key x y))∧ ∃q,w'=W.drewN q
theorem SL.cmp {g:Nat}{cb:Array Value}{key:Int→Int}(h:SL w0 blk off n D W)(hC:api g cb key w0 blk off n){x y:Int}(hx:I64 x)(hy:I64 y)(q:Nat):
  Calls Tryz.prog g (#[.int .i64 x,.int .i64 y]++cb) (W.drewN q) fun e w'=>e=.returned (.int .i64 (ahs key x y))∧ ∃q',w'=(W.drewN q).drewN q':=hC _ _ (h.drewN q) x y hx hy
set_option maxHeartbeats 4000000 in
set_option maxRecDepth 100000 in
theorem af7 {w0:World}{blk off n:Nat}(R:RowN w0 blk off n)(hn:n<4611686018427387904){T P U M V Q D:List Int}(fv:Value)(cap a b k:Nat)(w:World)
  (S:SL w0 blk off n D w) (hD:D=P++U++M++V++Q) (ha:P.length=a) (hu:U.length=k) (hv:V.length=k) (hb:a+k+M.length=b) (hT:T=P++V++M++U++Q):
  Calls Tryz.prog 256 #[.slice (some ⟨blk,off,none⟩) n cap,.int .i64 a,.int .i64 b,.int .i64 k,fv] w fun e w'=>e=.returned (.tuple #[])∧SL w0 blk off n T w':=by
 have hle:b+k≤n:=by rw[←S.len,hD];simp only[List.length_append];omega
 have S0:Aside (SL w0 blk off n D w):=S
 have H0:Hid (SwapAt P U M V Q 0 D):=SwapAt.start hD
 have HA:Hid (P.length=a):=ha
 have HU:Hid (U.length=k):=hu
 have HV:Hid (V.length=k):=hv
 have HB:Hid (a+k+M.length=b):=hb
 have hab:a+k≤b:=by omega
 have HT:Hid (T=P++V++M++U++Q):=hT
 clear S hD ha hu hv hb hT
 go_enter Tryz.func256,Tryz.ntmps256
 go_wp2
 go_loopg [10] k (fun g1 vi wr=> ∃(i:Nat) (Di:List Int),vi=.int .i64 i∧i≤k∧k-i≤g1∧Aside (SL w0 blk off n Di wr)∧Hid (SwapAt P U M V Q i Di))
 case atStart=>exact⟨0,D,rfl,Nat.zero_le _,by omega,S0,H0⟩
 case round=>
  clear S0 H0
  obtain⟨i,Di,rfl,hik,hg1,S1,H1⟩:=hrel
  by_cases hlt:i<k
  ·have hltz:(i:Int)<(k:Int):=by omega
   go_wp2_with fail
   obtain⟨iN,hiN⟩: ∃q,q=a+i:=⟨_,rfl⟩
   obtain⟨jN,hjN⟩: ∃q,q=b+i:=⟨_,rfl⟩
   have ea:((a:Int)+(i:Int)).toNat=iN:=by omega
   have pa:(0:Int)≤(a:Int)+(i:Int):=by omega
   have ba:(a:Int)+(i:Int)<(n:Int):=by omega
   have ra:IntKind.i64.wrap ((a:Int)+(i:Int))=(a:Int)+(i:Int):=by rw[IntKind.wrap_i64];omega
   have ec:((b:Int)+(i:Int)).toNat=jN:=by omega
   have pc:(0:Int)≤(b:Int)+(i:Int):=by omega
   have bc:(b:Int)+(i:Int)<(n:Int):=by omega
   have rc:IntKind.i64.wrap ((b:Int)+(i:Int))=(b:Int)+(i:Int):=by rw[IntKind.wrap_i64];omega
   obtain⟨x,hx⟩: ∃x,x=Di.getD (a+i) 0:=⟨_,rfl⟩
   obtain⟨y,hy⟩: ∃x,x=Di.getD (b+i) 0:=⟨_,rfl⟩
   have S2:Aside (SL w0 blk off n (aex Di (a+i) (b+i)) ((wr.setCell ⟨blk,off+iN,none⟩ (.int .i64 y)).setCell ⟨blk,off+jN,none⟩ (.int .i64 x)).drew):=by rw[hiN,hjN,hx,hy];exact S1.out.swapped R (a+i) (b+i) (by omega) (by omega)
   have ca:=S1.out.c1 R (a+i) (by omega)
   have cb:=S1.out.c1 R (b+i) (by omega)
   have fa:=S1.out.f1 R (a+i) (by omega)
   have fb:=S1.out.f1 R (b+i) (by omega)
   obtain⟨u,cc⟩:=S1.out.c2 R (a+i) (b+i) (by omega) (by omega) (.int .i64 y)
   rw[←hjN,←hiN] at cc
   rw[←hx,←hiN] at ca
   rw[←hy,←hjN] at cb
   rw[←hiN] at fa
   rw[←hjN] at fb
   have H2:Hid (SwapAt P U M V Q (i+1) (aex Di (a+i) (b+i))):=H1.out.step HU.out HV.out hlt HA.out HB.out
   clear S1 H1 hx hy hiN hjN
   go_wp2_with fail
   go_region
   clear ca cb cc fa fb
   generalize ((wr.setCell ⟨blk,off+iN,none⟩ (.int .i64 y)).setCell ⟨blk,off+jN,none⟩ (.int .i64 x)).drew=w2 at S2⊢
   clear ea ec
   go_wp2
   go_roundg (k-(i+1))
   case measure=>omega
   case rel=>exact⟨i+1,_,by first | rfl | go_num | simp,by omega,Nat.le_refl _,S2,H2⟩
  ·have hltz: ¬(i:Int)<(k:Int):=by omega
   go_wp2
   go_end0
   obtain rfl:i=k:=by omega
   exact⟨rfl,S1.out.to ((H1.out.done HU.out HV.out).trans HT.out.symm)⟩
set_option maxHeartbeats 4000000 in
set_option maxRecDepth 100000 in
theorem am1 {w0:World}{blk off n:Nat}(R:RowN w0 blk off n)(hn:n<4611686018427387904){T P0 X0 Y0 Q0 D0:List Int}(fv:Value)(cap a m b:Nat)(w:World)
  (S:SL w0 blk off n D0 w) (hR:RotAt T P0 X0 Y0 Q0 D0) (ha:P0.length=a) (hm:a+X0.length=m) (hb:m+Y0.length=b) (hx:a<m) (hy:m<b):
  Calls Tryz.prog 240 #[.slice (some ⟨blk,off,none⟩) n cap,.int .i64 a,.int .i64 m,.int .i64 b,fv] w fun e w'=>e=.returned (.tuple #[])∧SL w0 blk off n T w':=by
 have hle:b≤n:=by rw[←S.len,hR.1];simp only[List.length_append];omega
 have S0:Aside (SL w0 blk off n D0 w):=S
 have H0:Hid (RotAt T P0 X0 Y0 Q0 D0∧X0.length=m-a∧Y0.length=b-m∧P0.length+(m-a)=m):=⟨hR,by omega,by omega,by omega⟩
 clear S hR ha hm hb
 have z1:(m:Int)-(a:Int)=((m-a:Nat):Int):=by omega
 have z2:(b:Int)-(m:Int)=((b-m:Nat):Int):=by omega
 go_enter Tryz.func240,Tryz.ntmps240
 go_wp2
 go_loopg [10,11] (b-a) (fun g1 vi vj wr=> ∃(i j:Nat) (P X Y Q D:List Int),vi=.int .i64 i∧vj=.int .i64 j∧0<i∧0<j∧i≤m∧m+j≤n∧i+j≤g1∧Aside (SL w0 blk off n D wr)∧Hid (RotAt T P X Y Q D∧X.length=i∧Y.length=j∧P.length+i=m))
 case atStart=>exact⟨m-a,b-m,P0,X0,Y0,Q0,D0,by first | rfl | rw[z1],by first | rfl | rw[z2],by omega,by omega,by omega,by omega,by omega,S0,H0⟩
 case round=>
  clear S0 H0 z1 z2
  obtain⟨i,j,P,X,Y,Q,D,rfl,rfl,hi0,hj0,him,hjn,hg1,S1,H1⟩:=hrel
  obtain⟨p,hp⟩: ∃p,p+i=m:=⟨m-i,by omega⟩
  have ep:(m:Int)-(i:Int)=(p:Int):=by omega
  by_cases hne:i=j
  ·have hz:(i:Int)=(j:Int):=by omega
   have hS:=af7 R hn (T:=T) (P:=P) (U:=X) (M:=[]) (V:=Y) (Q:=Q) fv cap p m i wr S1.out (by rw[H1.out.1.1];simp) (by have:=H1.out;omega) H1.out.2.1 (by have:=H1.out;omega) (by simp;omega) (by rw[H1.out.1.2];simp)
   subst hne
   clear S1 H1 hz
   go_wp2_with fail
   refine hS.mono ?_
   rintro e w2 ⟨rfl,S2⟩
   go_wp2
   go_end0
   exact⟨rfl,S2⟩
  ·have hz: ¬(i:Int)=(j:Int):=by omega
   by_cases hgt:j<i
   ·have hgz:(j:Int)<(i:Int):=by omega
    obtain⟨h1,h2⟩:=H1.out.1.left j
    have hS:=af7 R hn (T:=P++Y++X.drop j++X.take j++Q) (P:=P) (U:=X.take j) (M:=X.drop j) (V:=Y) (Q:=Q) fv cap p m j wr S1.out h1 (by have:=H1.out;omega) (by rw[List.length_take];have:=H1.out;omega) H1.out.2.2.1 (by rw[List.length_drop];have:=H1.out;omega) rfl
    have H2:Hid (RotAt T (P++Y) (X.drop j) (X.take j) Q (P++Y++X.drop j++X.take j++Q)∧(X.drop j).length=i-j∧(X.take j).length=j∧(P++Y).length+(i-j)=m):=⟨h2,by rw[List.length_drop];have:=H1.out;omega,by rw[List.length_take];have:=H1.out;omega,by rw[List.length_append];have:=H1.out;omega⟩
    generalize P++Y++X.drop j++X.take j++Q=D2 at hS H2
    clear S1 H1 h1 h2
    go_wp2_with fail
    refine hS.mono ?_
    rintro e w2 ⟨rfl,S2⟩
    have S2:Aside _:=S2
    clear hS
    go_wp2
    go_roundg (i-j+j)
    case measure=>omega
    case rel=>exact⟨i-j,j,_,_,_,_,D2,by first | rfl | (congr 1;omega),rfl,by omega,hj0,by omega,hjn,Nat.le_refl _,S2,H2⟩
   ·have hgz: ¬(j:Int)<(i:Int):=by omega
    obtain⟨q,hq⟩: ∃q,q+i=m+j:=⟨m+j-i,by omega⟩
    have eq:(m:Int)+(j:Int)-(i:Int)=(q:Int):=by omega
    obtain⟨h1,h2⟩:=H1.out.1.right (j-i)
    have hS:=af7 R hn (T:=P++Y.drop (j-i)++Y.take (j-i)++X++Q) (P:=P) (U:=X) (M:=Y.take (j-i)) (V:=Y.drop (j-i)) (Q:=Q) fv cap p q i wr S1.out h1 (by have:=H1.out;omega) H1.out.2.1 (by rw[List.length_drop];have:=H1.out;omega) (by rw[List.length_take];have:=H1.out;omega) rfl
    have H2:Hid (RotAt T P (Y.drop (j-i)) (Y.take (j-i)) (X++Q) (P++Y.drop (j-i)++Y.take (j-i)++X++Q)∧(Y.drop (j-i)).length=i∧(Y.take (j-i)).length=j-i∧P.length+i=m):=⟨h2,by rw[List.length_drop];have:=H1.out;omega,by rw[List.length_take];have:=H1.out;omega,H1.out.2.2.2⟩
    generalize P++Y.drop (j-i)++Y.take (j-i)++X++Q=D2 at hS H2
    clear S1 H1 h1 h2
    go_wp2_with fail
    refine hS.mono ?_
    rintro e w2 ⟨rfl,S2⟩
    have S2:Aside _:=S2
    clear hS
    go_wp2
    go_roundg (i+(j-i))
    case measure=>omega
    case rel=>exact⟨i,j-i,_,_,_,_,D2,rfl,by first | rfl | (congr 1;omega),hi0,by omega,him,by omega,Nat.le_refl _,S2,H2⟩
end Go.Proofs.YtpfkoldfbecdlaaGreatDoor
