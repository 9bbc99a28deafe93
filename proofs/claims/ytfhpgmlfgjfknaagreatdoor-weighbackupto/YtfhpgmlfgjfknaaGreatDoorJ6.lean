/- Contracts and lemmas (nothing is claimed here). -/
import Derived.Test.YtfhpgmlfgjfknaaGreatDoorJ5
namespace Go.Proofs.YtfhpgmlfgjfknaaGreatDoor
open Go.RowKit Go.Vf Go.Maps
structure DD (w:World)(bm n:Nat)(pv ev:Int→Value)(L:List Mk)(E:Int→List Int):Prop where
 mp:MapAt w bm n (fun p=>(aau L p).map fun m=>ae5 m.cls (pv p) (ev p))
 parts: ∀m∈L,Ints w.heap.size w (pv m.point) m.parts∧m.parts.length≤131072
 ends: ∀m∈L,Ints w.heap.size w (ev m.point) (E m.point)∧(E m.point).length≤19
 ins: ∀m∈L,InI m.point∧ ∀q∈m.parts,InI q
 noE: ∀p,aau L p=none→E p=[]
theorem DD.below {w w':World}{bm n:Nat}{pv ev:Int→Value}{L:List Mk}{E:Int→List Int}(h:DD w bm n pv ev L E)(hb:Below w.heap.size w w'):DD w' bm n pv ev L E:=
 ⟨h.mp.below hb h.mp.lt,fun m hm=>⟨((h.parts m hm).1.below hb (Nat.le_refl _)).mono hb.size,(h.parts m hm).2⟩,fun m hm=>⟨((h.ends m hm).1.below hb (Nat.le_refl _)).mono hb.size,(h.ends m hm).2⟩,h.ins,h.noE⟩
theorem DD.look {w:World}{bm n:Nat}{pv ev:Int→Value}{L:List Mk}{E:Int→List Int}(h:DD w bm n pv ev L E){p:Int}(hp:InI p): ∃a k cap a2 k2 cap2,
  (∀x:World,x.heap=w.heap→(Instr.lookup 89 (.map (some bm)) (.int .i64 p) false).run Tryz.prog x=.ok (ae5 (aaa L p) (.slice a k cap) (.slice a2 k2 cap2)) x)∧
  (∀x:World,x.heap=w.heap→(Instr.lookup 89 (.map (some bm)) (.int .i64 p) true).run Tryz.prog x=.ok (.tuple #[ae5 (aaa L p) (.slice a k cap) (.slice a2 k2 cap2),.bool (ade L p)]) x)∧
  Ints w.heap.size w (.slice a k cap) (aab L p)∧k=(aab L p).length∧k≤131072∧(∀q∈aab L p,InI q)∧
  Ints w.heap.size w (.slice a2 k2 cap2) (E p)∧k2=(E p).length∧k2≤19:=by
 have hl: ∀x:World,x.heap=w.heap→_:=fun x hx=>(h.mp.block (w':=x) (by rw[hx])).look Tryz.underlying89 (am2 x) hp
 have hl2: ∀x:World,x.heap=w.heap→_:=fun x hx=>(h.mp.block (w':=x) (by rw[hx])).look_ok Tryz.underlying89 (am2 x) hp
 unfold aab aaa ade
 cases hm:aau L p with
 | none=>
  rw[hm] at hl hl2
  rw[h.noE p hm]
  exact⟨none,0,0,none,0,0,hl,hl2,.inl ⟨_,_,rfl,rfl⟩,rfl,by omega,by simp,.inl ⟨_,_,rfl,rfl⟩,rfl,by omega⟩
 | some m=>
  rw[hm] at hl hl2
  have hmem:m∈L:=List.mem_of_find?_eq_some hm
  have hpt:m.point=p:=by simpa using List.find?_some hm
  obtain⟨hi,hlen⟩:=h.parts m hmem
  obtain⟨hi2,hlen2⟩:=h.ends m hmem
  rw[hpt] at hi hi2 hlen2
  obtain⟨a,cap,hv⟩:=hi.val
  obtain⟨a2,cap2,hv2⟩:=hi2.val
  rw[hv] at hi
  rw[hv2] at hi2
  simp only[Option.map_some,Option.getD_some,Option.isSome_some,hv,hv2] at hl hl2
  exact⟨a,_,cap,a2,_,cap2,hl,hl2,hi,rfl,hlen,(h.ins m hmem).2,hi2,rfl,hlen2⟩
set_option maxHeartbeats 1000000 in
set_option maxRecDepth 20000 in
theorem an8 (bd bm n:Nat)(pv ev:Int→Value)(L:List Mk)(E:Int→List Int)(p:Int)(w:World)(hp:InI p)(hbd:Blk w bd 96 #[.map (some bm)])(hdd:DD w bm n pv ev L E):
  Calls Tryz.prog 114 #[.pointer (some ⟨bd,0,none⟩),.int .i64 p] w fun e w'=> ∃b off cap,e=.returned (.slice (some ⟨b,off,none⟩) (aak E p).length cap)∧b<w'.heap.size∧(∀j,j<(aak E p).length→w'.cell? ⟨b,off+j,none⟩=some (.int .i64 ((aak E p)[j]?.getD 0)))∧Below w.heap.size w w':=by
 obtain⟨a,k,cap,a2,k2,cap2,hl,_,_,hkA,_,_,hi2,hk2,_⟩:=hdd.look hp
 clear hkA
 have hl':=hl w rfl
 have hf2:=a5i (aaa L p) (.slice a k cap) (.slice a2 k2 cap2)
 have b0:w.cell? ⟨bd,0,none⟩=some (.map (some bm)):=hbd.cell 0
 by_cases hE:E p=[]
 ·have e1:aak E p=[p]:=by simp[aak,hE]
  rw[e1]
  have h0:k2=0:=by rw[hk2,hE];rfl
  subst h0
  clear hl hk2
  go_enter Tryz.func114,Tryz.ntmps114
  go_wp2_with fail
  go_ret
  refine⟨_,_,_,rfl,by simp,fun j hj=> ?_,(Below.refl _ _).alloc (Nat.le_refl _) _⟩
  obtain rfl:j=0:=by simpa using hj
  simp
 ·have e1:aak E p=E p:=by simp[aak,hE]
  rw[e1]
  obtain⟨b,off,rfl,hn,hb,hc⟩:=hi2.cell hE
  have hpos:0<k2:=by rw[hk2];exact List.length_pos_iff.2 hE
  have HK:Hid (k2=(E p).length):=hk2
  clear hl hk2 hn
  go_enter Tryz.func114,Tryz.ntmps114
  go_wp2_with fail
  go_ret
  refine⟨b,off,cap2,?_,hb,hc,Below.refl _ _⟩
  rw[←HK.out]
  try rfl
theorem al6 {E:Int→List Int}{p:Int}(h:(E p).length≤19):(aak E p).length≤19∧0<(aak E p).length:=by
 unfold aak
 split
 ·simp
 ·rename_i h2
  exact⟨h,List.length_pos_iff.2 h2⟩
theorem DD.elen {w:World}{bm n:Nat}{pv ev:Int→Value}{L:List Mk}{E:Int→List Int}(h:DD w bm n pv ev L E)(p:Int):(E p).length≤19:=by
 cases hm:aau L p with
 | none=>rw[h.noE p hm];simp
 | some m=>
  have hpt:m.point=p:=by simpa using List.find?_some hm
  have:=(h.ends m (List.mem_of_find?_eq_some hm)).2
  rwa [hpt] at this
theorem IOwn.some_of {w:World}{base:Nat}{a:Option Addr}{n c:Nat}{zs:List Int}(h:IOwn w base (.slice a n c) zs)(hne:0<zs.length): ∃g,a=some ⟨g,0,none⟩∧base≤g∧zs.length≤c:=by
 rcases h.form with ⟨_,hbad⟩ | ⟨g,cap,he,hg,_,hcap,_⟩
 ·rw[hbad] at hne;simp at hne
 ·simp only[Value.slice.injEq] at he
  exact⟨g,he.1,hg,by rw[he.2.2];exact hcap⟩
theorem a0b (E:Int→List Int)(acc:List Int)(q:Int)(r:List Int):agm E acc (q::r)=if 18<(acc++aak E q).length then (acc++aak E q).take 19 else agm E (acc++aak E q) r:=rfl
set_option maxHeartbeats 4000000 in
set_option maxRecDepth 20000 in
theorem a3u (bd bm n:Nat)(pv ev:Int→Value)(L:List Mk)(E:Int→List Int)(a:Option Addr)(kp cap:Nat)(ps:List Int)(w:World)(hps: ∀q∈ps,InI q)(hbd:Blk w bd 96 #[.map (some bm)])(hdd:DD w bm n pv ev L E)(hin:Ints w.heap.size w (.slice a kp cap) ps)(hkp:kp=ps.length)(hkl:kp≤131072):
  Calls Tryz.prog 68 #[.pointer (some ⟨bd,0,none⟩),.slice a kp cap] w fun e w'=> ∃a' k' c',e=.returned (.slice a' k' c')∧IOwn w' w.heap.size (.slice a' k' c') (agm E [] ps)∧Below w.heap.size w w':=by
 generalize hR:agm E [] ps=R
 have HR:Hid (agm E [] ps=R):=hR
 have HKP:Hid (kp=ps.length):=hkp
 have hel:=hdd.elen
 clear hR hkp
 go_enter Tryz.func68,Tryz.ntmps68
 go_wp2_with fail
 go_loopw [5,10] (fun v i wr=> ∃(k:Nat) (acc:List Int),k≤kp∧i=.int .i64 k∧IOwn wr w.heap.size v acc∧acc.length≤18∧Hid (agm E acc (ps.drop k)=R)∧Below w.heap.size w wr) (fun _ i _=>kp-(intOf i).toNat)
 case atStart=>exact⟨0,[],by omega,rfl,IOwn.nil _ _,by simp,by simpa using HR,Below.refl _ _⟩
 case round=>
  obtain⟨k,acc,hk,rfl,hown,hal,HK,hbel⟩:=hrel
  by_cases hlt:k<kp
  ·have hltp:k<ps.length:=by rw[←HKP.out];exact hlt
   have hd:ps.drop k=ps[k]::ps.drop (k+1):=List.drop_eq_getElem_cons hltp
   obtain⟨bp,op,hao,hnk,hblt,hcell⟩:=(hin.below hbel (Nat.le_refl _)).cell (fun e=>by rw[e] at hltp;simp at hltp)
   have hcj:=hcell k hltp
   rw[show ps[k]?.getD 0=ps[k] by simp[List.getElem?_eq_getElem hltp]] at hcj
   have hqI:=hps _ (List.getElem_mem hltp)
   have hKK:=HK.out
   rw[hd,a0b] at hKK
   obtain⟨hl1,hl2⟩:=al6 (hel ps[k])
   generalize ps[k]=q at hcj hqI hKK hl1 hl2
   subst hao
   have HKK:Hid ((if 18<(acc++aak E q).length then (acc++aak E q).take 19 else agm E (acc++aak E q) (ps.drop (k+1)))=R):=hKK
   obtain⟨av,cv,rfl⟩:=hown.val
   have hbdr:=hbd.below hbel hbd.lt
   have hddr:=hdd.below hbel
   clear hcell hd HK hKK hltp hnk HR
   go_wp2_with fail
   refine(an8 bd bm n pv ev L E q _ hqI hbdr hddr).mono ?_
   rintro e w3 ⟨b3,o3,c3,rfl,hb3l,hc3,hbel3⟩
   have hown3:=aad hown hbel3
   have hsz3:w.heap.size≤w3.heap.size:=Nat.le_trans hbel.size hbel3.size
   have hsum:acc.length+(aak E q).length≤1099511627776:=by omega
   have HC3:Hid (∀j,j<(aak E q).length→w3.cell? ((⟨b3,o3,none⟩:Addr).add j)=some (.int .i64 ((aak E q)[j]?.getD 0))):=fun j hj=>by
    rw[show (⟨b3,o3,none⟩:Addr).add j=⟨b3,o3+j,none⟩ by simp[Addr.add]];exact hc3 j hj
   clear hc3
   have HLA:Hid ((acc++aak E q).length=acc.length+(aak E q).length):=List.length_append
   generalize aak E q=en at HKK hl1 hl2 hsum HC3 HLA⊢
   by_cases hlong:18<acc.length+en.length
   ·have hRR:R=(acc++en).take 19:=by rw[←HKK.out,if_pos (by rw[HLA.out];exact hlong)]
    go_wp2_with (first | (at_builtin;refine aao rfl _ _ rfl w.heap.size _ acc rfl hown3 en ⟨b3,o3,none⟩ _ rfl HC3.out hsum hsz3 ?_;intro a4 c4 w4 hown4 hgr4 hnil4 hat4;obtain⟨g4,rfl,hg4,hcap4⟩:=hown4.some_of (by rw[HLA.out];omega);rw[HLA.out] at hcap4;have hc19:19≤c4:=by omega))
    have hb4:Below w.heap.size w3 w4:=(Below.refl _ w3).grown hgr4 hsz3 (fun j hj=>(aan hown3 hj).1)
    go_ret
    refine⟨_,_,_,rfl,?_,(hbel.trans (hbel3.mono hbel.size)).trans hb4⟩
    rw[hRR]
    exact hown4.front 19 (by rw[HLA.out];omega)
   ·have HK2:Hid (agm E (acc++en) (ps.drop (k+1))=R):=by show _=_;rw[←HKK.out,if_neg (by rw[HLA.out];exact hlong)]
    go_wp2_with (first | (at_builtin;refine aao rfl _ _ rfl w.heap.size _ acc rfl hown3 en ⟨b3,o3,none⟩ _ rfl HC3.out hsum hsz3 ?_;intro a4 c4 w4 hown4 hgr4 hnil4 hat4))
    have hb4:Below w.heap.size w3 w4:=(Below.refl _ w3).grown hgr4 hsz3 (fun j hj=>(aan hown3 hj).1)
    go_roundw
    case rel=>exact⟨k+1,acc++en,by omega,by simp,hown4,by rw[HLA.out];omega,HK2,(hbel.trans (hbel3.mono hbel.size)).trans hb4⟩
    case measure=>simp only[intOf];omega
  ·have hRR:R=acc:=by rw[←HK.out,List.drop_of_length_le (by rw[←HKP.out];omega)];rfl
   obtain⟨av,cv,rfl⟩:=hown.val
   clear HK
   go_wp2_with fail
   go_ret
   rw[hRR]
   exact⟨_,_,_,rfl,hown,hbel⟩
theorem app {w x y:World}{bm:Nat}(h:w.grownBy x (some bm))(hb:Below x.heap.size x y):w.grownBy y (some bm):=
 ⟨hb.os.trans h.os,hb.tape.trans h.tape,hb.output.trans h.output,Nat.le_trans h.size hb.size,fun k hk hne=>(hb.block k (Nat.lt_of_lt_of_le hk h.size)).trans (h.block k hk hne)⟩
theorem a8a {w x y:World}{bm:Nat}(h:w.grownBy x (some bm))(hg:x.grownBy y (some bm)):w.grownBy y (some bm):=
 ⟨hg.os.trans h.os,hg.tape.trans h.tape,hg.output.trans h.output,Nat.le_trans h.size hg.size,fun k hk hne=>(hg.block k (Nat.lt_of_lt_of_le hk h.size) hne).trans (h.block k hk hne)⟩
theorem apk {w x:World}{bm n:Nat}{f:Int→Option Value}{v:Value}{zs:List Int}(hm:MapAt w bm n f)(h:w.grownBy x (some bm))(hi:Ints w.heap.size w v zs):Ints x.heap.size x v zs:=by
 rcases hi with hi | ⟨b,off,cap,e,hb,hc⟩
 ·exact .inl hi
 ·by_cases hz:zs=[]
  ·subst hz;exact .inl ⟨_,_,e,rfl⟩
  ·refine .inr ⟨b,off,cap,e,Nat.lt_of_lt_of_le hb h.size,fun j hj=> ?_⟩
   have hc0:=hc j hj
   refine(World.cell?_of_block (a:=⟨b,off+j,none⟩) (h.block b hb (fun e=> ?_))).trans hc0
   have e':b=bm:=by simpa using e
   obtain⟨D,⟨es,clock,hbm,_⟩,_⟩:=hm
   rw[←e'] at hbm
   simp[World.cell?,hbm] at hc0
def Above (B:Nat)(v:Value):Prop:= ∀a n c,v=.slice (some a) n c→n=0∨B≤a.block
theorem Above.nil (B:Nat):Above B (.slice none 0 0):=fun a n c e=>by cases e
theorem IOwn.above {w:World}{base:Nat}{v:Value}{zs:List Int}(h:IOwn w base v zs):Above base v:=fun a n c e=>by
 subst e
 exact .inr (aan h rfl).1
theorem Above.mono {B B':Nat}{v:Value}(h:Above B v)(hB:B'≤B):Above B' v:=fun a n c e=>(h a n c e).imp id (fun h=>Nat.le_trans hB h)
theorem avp {w:World}{n₀:Nat}{v:Value}{zs:List Int}{B:Nat}{p:Addr}{u:Value}(h:Ints n₀ w v zs)(ha:Above B v)(hp:p.block<B):Ints n₀ (w.setCell p u) v zs:=by
 rcases h with h | ⟨b,off,cap,e,hb,hc⟩
 ·exact .inl h
 ·rcases ha _ _ _ e with h0 | hB
  ·have:zs=[]:=List.eq_nil_of_length_eq_zero h0
   subst this
   exact .inl ⟨_,_,e,rfl⟩
  ·exact .inr ⟨b,off,cap,e,hb,fun j hj=>(World.cell?_setCell_far w p ⟨b,off+j,none⟩ u (by show p.block≠b;simp at hB;omega)).trans (hc j hj)⟩
theorem DD.setLow {w:World}{bm n:Nat}{pv ev:Int→Value}{L:List Mk}{E:Int→List Int}(h:DD w bm n pv ev L E){B:Nat}(h1: ∀m∈L,Above B (pv m.point))(h2: ∀x,Above B (ev x))(hbm:B≤bm){p:Addr}(hp:p.block<B)(u:Value):DD (w.setCell p u) bm n pv ev L E:=
 ⟨h.mp.setCell (by omega) u,fun m hm=>⟨by simpa using avp (h.parts m hm).1 (h1 m hm) hp,(h.parts m hm).2⟩,fun m hm=>⟨by simpa using avp (h.ends m hm).1 (h2 m.point) hp,(h.ends m hm).2⟩,h.ins,h.noE⟩
theorem DD.store {w w5:World}{bm n:Nat}{pv ev:Int→Value}{L:List Mk}{E:Int→List Int}(h:DD w bm n pv ev L E){p:Int}{m:Mk}(hm:aau L p=some m){v:Value}{R:List Int}(hv:Ints w.heap.size w v R)(hR:R.length≤19)
  (hmp:MapAt w5 bm (n+1) (aux (fun p=>(aau L p).map fun m=>ae5 m.cls (pv p) (ev p)) p (ae5 m.cls (pv p) v))) (hg:w.grownBy w5 (some bm)):
  DD w5 bm (n+1) pv (fun x=>if x=p then v else ev x) L (a7a E p R):=by
 have hpt:m.point=p:=by simpa using List.find?_some hm
 refine⟨?_,fun m hm=>⟨apk h.mp hg (h.parts m hm).1,(h.parts m hm).2⟩,?_,h.ins,?_⟩
 ·have e:(aux (fun p=>(aau L p).map fun m=>ae5 m.cls (pv p) (ev p)) p (ae5 m.cls (pv p) v))=fun x=>(aau L x).map fun m=>ae5 m.cls (pv x) (if x=p then v else ev x):=by
   funext x
   unfold aux
   by_cases hx:x=p
   ·subst hx;simp[hm]
   ·simp[hx]
  rw[e] at hmp
  exact hmp
 ·intro m' hm'
  unfold a7a
  by_cases hx:m'.point=p
  ·rw[if_pos hx,if_pos hx];exact⟨apk h.mp hg hv,hR⟩
  ·rw[if_neg hx,if_neg hx];exact⟨apk h.mp hg (h.ends m' hm').1,(h.ends m' hm').2⟩
 ·intro x hx
  unfold a7a
  by_cases e:x=p
  ·subst e;rw[hm] at hx;cases hx
  ·rw[if_neg e];exact h.noE x hx
theorem DD.lookM {w:World}{bm n:Nat}{pv ev:Int→Value}{L:List Mk}{E:Int→List Int}(h:DD w bm n pv ev L E){p:Int}(hp:InI p){m:Mk}(hm:aau L p=some m): ∃a cap a2 cap2,pv p=.slice a m.parts.length cap∧ev p=.slice a2 (E p).length cap2∧
  (∀x:World,x.heap=w.heap→(Instr.lookup 89 (.map (some bm)) (.int .i64 p) true).run Tryz.prog x=.ok (.tuple #[ae5 m.cls (pv p) (ev p),.bool true]) x)∧Ints w.heap.size w (pv p) m.parts∧m.parts.length≤131072∧ ∀q∈m.parts,InI q:=by
 have hl2: ∀x:World,x.heap=w.heap→_:=fun x hx=>(h.mp.block (w':=x) (by rw[hx])).look_ok Tryz.underlying89 (am2 x) hp
 rw[hm] at hl2
 have hmem:m∈L:=List.mem_of_find?_eq_some hm
 have hpt:m.point=p:=by simpa using List.find?_some hm
 obtain⟨hi,hlen⟩:=h.parts m hmem
 obtain⟨hi2,_⟩:=h.ends m hmem
 rw[hpt] at hi hi2
 obtain⟨a,cap,hv⟩:=hi.val
 obtain⟨a2,cap2,hv2⟩:=hi2.val
 exact⟨a,cap,a2,cap2,hv,hv2,hl2,hi,hlen,(h.ins m hmem).2⟩
theorem axt (has:Int→Bool)(G:Int→List Int)(p:Int)(r:List Int)(E:Int→List Int):ad9 has G (p::r) E=ad9 has G r (if has p then a7a E p (agm E [] (G p)) else E):=rfl
theorem a0g (E:Int→List Int)(l:List Int):(agm E [] l).length≤19:=by
 rw[avo E l [] (by simp)];simp;omega
set_option maxHeartbeats 4000000 in
set_option maxRecDepth 20000 in
theorem ari (bd bm n:Nat)(pv ev:Int→Value)(L:List Mk)(E:Int→List Int)(a:Option Addr)(ko cap:Nat)(ord:List Int)(w:World)(hord: ∀q∈ord,InI q)(hbd:Blk w bd 96 #[.map (some bm)])(hdd:DD w bm n pv ev L E)(hin:Ints w.heap.size w (.slice a ko cap) ord)(hko:ko=ord.length)(hkl:ko≤1000000)(hn:n≤1000000)(hab: ∀x,Above w.heap.size (ev x)):
  Calls Tryz.prog 35 #[.pointer (some ⟨bd,0,none⟩),.slice a ko cap] w fun e w'=>e=.returned (.tuple #[])∧(∃n' ev',DD w' bm n' pv ev' L (ad9 (ade L) (aab L) ord E)∧n'≤2000000∧ ∀x,Above w.heap.size (ev' x))∧w.grownBy w' (some bm):=by
 generalize hR:ad9 (ade L) (aab L) ord E=R
 have HR:Hid (ad9 (ade L) (aab L) ord E=R):=hR
 have HKO:Hid (ko=ord.length):=hko
 have hbne:bd≠bm:=aaq hbd hdd.mp
 have hg0:w.grownBy w (some bm):=⟨rfl,rfl,rfl,Nat.le_refl _,fun _ _ _=>rfl⟩
 clear hR hko
 go_enter Tryz.func35,Tryz.ntmps35
 go_wp2_with fail
 go_loopw [10] (fun i wr=> ∃(k n1:Nat) (E1:Int→List Int) (ev1:Int→Value),k≤ko∧i=.int .i64 k∧DD wr bm n1 pv ev1 L E1∧n1≤1000000+k∧Hid (ad9 (ade L) (aab L) (ord.drop k) E1=R)∧w.grownBy wr (some bm)∧Hid (∀x,Above w.heap.size (ev1 x))) (fun i _=>ko-(intOf i).toNat)
 case atStart=>exact⟨0,n,E,ev,by omega,rfl,hdd,by omega,by simpa using HR,hg0,hab⟩
 case round=>
  obtain⟨k,n1,E1,ev1,hk,rfl,hdd1,hn1,HK,hg,HAB⟩:=hrel
  by_cases hlt:k<ko
  ·have hltp:k<ord.length:=by rw[←HKO.out];exact hlt
   have hd:ord.drop k=ord[k]::ord.drop (k+1):=List.drop_eq_getElem_cons hltp
   obtain⟨bp,op,hao,hnk,hblt,hcell⟩:=(apk hdd.mp hg hin).cell (fun e=>by rw[e] at hltp;simp at hltp)
   have hcj:=hcell k hltp
   rw[show ord[k]?.getD 0=ord[k] by simp[List.getElem?_eq_getElem hltp]] at hcj
   have hqI:=hord _ (List.getElem_mem hltp)
   have hKK:=HK.out
   rw[hd,axt] at hKK
   generalize ord[k]=q at hcj hqI hKK
   subst hao
   have hbdr:Blk wr bd 96 #[.map (some bm)]:=(hg.block bd hbd.lt (fun e=>hbne (by simpa using e))).trans hbd
   have b0:wr.cell? ⟨bd,0,none⟩=some (.map (some bm)):=hbdr.cell 0
   cases hmk:aau L q with
   | none=>
    have hh:ade L q=false:=by simp[ade,hmk]
    have HK2:Hid (ad9 (ade L) (aab L) (ord.drop (k+1)) E1=R):=by show _=_;rw[←hKK,hh];rfl
    have hlo:=hdd1.mp.look_ok Tryz.underlying89 (am2 wr) hqI
    rw[hmk] at hlo
    simp only[Option.map_none,Option.getD_none,Option.isSome_none] at hlo
    have hb1:=(Below.refl wr.heap.size wr).alloc (Nat.le_refl _) (.cells #[.int .i64 0,.slice none 0 0,.slice none 0 0] 141)
    have hdd2:=hdd1.below hb1
    have hg2:=app hg hb1
    clear hcell hd HK hKK hltp hnk HR
    go_wp2_with fail
    go_roundw
    case rel=>exact⟨k+1,n1,E1,ev1,by omega,by simp,hdd2,by omega,HK2,hg2,HAB⟩
    case measure=>simp only[intOf];omega
   | some m=>
    have hh:ade L q=true:=by simp[ade,hmk]
    have hpa:aab L q=m.parts:=by simp[aab,hmk]
    have HK2:Hid (ad9 (ade L) (aab L) (ord.drop (k+1)) (a7a E1 q (agm E1 [] m.parts))=R):=by show _=_;rw[←hKK,hh,hpa];rfl
    obtain⟨a1,c1,a2,c2,hpv,hev,hlo,hpi,hpl,hpq⟩:=hdd1.lookM hqI hmk
    have hlo':=hlo wr rfl
    rw[hpv,hev] at hlo'
    rw[hpv] at hpi
    have hb1:=(Below.refl wr.heap.size wr).alloc (Nat.le_refl _) (.cells #[.int .i64 m.cls,.slice a1 m.parts.length c1,.slice a2 (E1 q).length c2] 141)
    have hdd2:=hdd1.below hb1
    have hg2:=app hg hb1
    have hbd2:=hbdr.below hb1 hbdr.lt
    have hpi2:=(hpi.below hb1 (Nat.le_refl _)).mono hb1.size
    have hbm2:=Blk.new wr 141 #[.int .i64 m.cls,.slice a1 m.parts.length c1,.slice a2 (E1 q).length c2]
    clear hcell hd HK hKK hltp hnk HR hlo hpi
    go_wp2_with fail
    refine(a3u bd bm n1 pv ev1 L E1 a1 m.parts.length c1 m.parts _ hpq hbd2 hdd2 hpi2 rfl hpl).mono ?_
    rintro e w3 ⟨a3,k3,c3,rfl,hown3,hb3⟩
    have hq3:=hbm2.below hb3 hbm2.lt
    obtain⟨⟨q0,q1,q2⟩,qf0,qf1,qf2⟩:=abm hq3
    have hq4:=hq3.set 2 (.slice a3 k3 c3)
    have hown4:IOwn (w3.setCell ⟨wr.heap.size,2,none⟩ (.slice a3 k3 c3)) (wr.heap.size+1) (.slice a3 k3 c3) (agm E1 [] m.parts):=by
     refine aam (IOwn.mono hown3 (by simp)) (p:=⟨wr.heap.size,2,none⟩) (by show wr.heap.size<_;omega) _
    have hb4:Below wr.heap.size wr (w3.setCell ⟨wr.heap.size,2,none⟩ (.slice a3 k3 c3)):=(hb1.trans (hb3.mono (by simp))).setCell (p:=⟨wr.heap.size,2,none⟩) (Nat.le_refl _) _
    have hdd4:=hdd1.below hb4
    have hbd4:=hbdr.below hb4 hbdr.lt
    have hg4:=app hg hb4
    clear hbm2 hbd2 hdd2 hpi2 hb3 hown3 hq3 hlo' hb1 hg2
    go_wp2_with fail
    generalize hW4:w3.setCell ⟨wr.heap.size,2,none⟩ (.slice a3 k3 c3)=W4 at hq4 hown4 hb4 hdd4 hbd4 hg4⊢
    obtain⟨w5,hup,hmp5,hgr5,hsz5⟩:=hdd4.mp.drew.update Tryz.underlying89 (by unfold maxLen;omega) hqI (ae5 m.cls (.slice a1 m.parts.length c1) (.slice a3 k3 c3))
    have e0:W4.drew.cell? ⟨bd,0,none⟩=some (.map (some bm)):=hbd4.cell 0
    have e1:W4.drew.cell? ⟨wr.heap.size,0,none⟩=some (.int .i64 m.cls):=hq4.cell 0
    have e2:W4.drew.cell? ⟨wr.heap.size,1,none⟩=some (.slice a1 m.parts.length c1):=hq4.cell 1
    have e3:W4.drew.cell? ⟨wr.heap.size,2,none⟩=some (.slice a3 k3 c3):=hq4.cell 2
    rw[←hpv] at hmp5
    have hdd5:=hdd4.store hmk (IOwn.ints hown4) (a0g _ _) hmp5 ⟨hgr5.os,hgr5.tape,hgr5.output,hgr5.size,hgr5.block⟩
    have hg5:w.grownBy w5 (some bm):=a8a hg4 ⟨hgr5.os,hgr5.tape,hgr5.output,hgr5.size,hgr5.block⟩
    have HAB5:Hid (∀x,Above w.heap.size (if x=q then .slice a3 k3 c3 else ev1 x)):=fun x=>by
     by_cases hx:x=q
     ·rw[if_pos hx];exact hown4.above.mono (by have:=hg.size;omega)
     ·rw[if_neg hx];exact HAB.out x
    clear hW4 hmp5 hgr5 hsz5 hdd4 hq4 hown4
    go_region
    go_wp2_with fail
    go_roundw
    case rel=>exact⟨k+1,n1+1,_,_,by omega,by simp,hdd5,by omega,HK2,hg5,HAB5⟩
    case measure=>simp only[intOf];omega
  ·have hRR:R=E1:=by rw[←HK.out,List.drop_of_length_le (by rw[←HKO.out];omega)];rfl
   clear HK
   go_wp2_with fail
   go_end0
   rw[hRR]
   exact⟨rfl,⟨_,_,hdd1,by omega,HAB.out⟩,hg⟩
def ami (L:List Mk)(E:Int→List Int)(w:World)(e:Ending)(w':World):Prop:=
 Below w.heap.size w w'∧match L.find? (fun m=>decide (18<(E m.point).length)) with
  | some m=>e=ajt 43 m.line
  | none=>e=.returned (.tuple #[])
set_option maxHeartbeats 4000000 in
set_option maxRecDepth 20000 in
theorem ao9 (bd bm n:Nat)(pv ev:Int→Value)(L:List Mk)(E:Int→List Int)(vp:Value)(w:World)(hL:L.length≤4096)(hbd:Blk w bd 96 #[.map (some bm)])(hdd:DD w bm n pv ev L E)(hpl:PL w vp L):
  Calls Tryz.prog 36 #[.pointer (some ⟨bd,0,none⟩),vp] w fun e w'=>ami L E w e w':=by
 obtain⟨av,cv,rfl⟩:=hpl.val
 generalize hF:L.find? (fun m=>decide (18<(E m.point).length))=F
 have HF:Hid (L.find? (fun m=>decide (18<(E m.point).length))=F):=hF
 have HPO:Hid (∀(e:Ending) (w':World),(Below w.heap.size w w'∧match F with
  | some m=>e=ajt 43 m.line
  | none=>e=.returned (.tuple #[]))→ami L E w e w'):=fun e w' h=>by unfold ami;rw[hF];exact h
 clear hF
 go_enter Tryz.func36,Tryz.ntmps36
 go_wp2_with fail
 go_loopw [8] (fun i wr=> ∃(k:Nat),k≤L.length∧i=.int .i64 k∧Hid ((L.drop k).find? (fun m=>decide (18<(E m.point).length))=F)∧Below w.heap.size w wr) (fun i _=>L.length-(intOf i).toNat)
 case atStart=>exact⟨0,by omega,rfl,by simpa using HF,Below.refl _ _⟩
 case round=>
  clear HF
  obtain⟨k,hk,rfl,HK,hbel⟩:=hrel
  have hplr:=hpl.below hbel
  by_cases hlt:k<L.length
  ·rcases hplr with ⟨_,h0⟩ | ⟨gp,cap,he,hgp,hc⟩
   ·rw[h0] at hlt;simp at hlt
   simp only[Value.slice.injEq] at he
   obtain⟨rfl,_,rfl⟩:=he
   obtain⟨c0,c1⟩:=hc k hlt
   have hd:L.drop k=L[k]::L.drop (k+1):=List.drop_eq_getElem_cons hlt
   have hpI:=(hdd.ins L[k] (List.getElem_mem hlt)).1
   have hKK:=HK.out
   rw[hd,List.find?_cons] at hKK
   generalize L[k]=mk at c0 c1 hpI hKK
   have hb1:=(Below.refl wr.heap.size wr).alloc (Nat.le_refl _) (.cells #[.int .i64 mk.point,.int .i64 mk.line] 139)
   have hb2:Below w.heap.size w (wr.alloc (.cells #[.int .i64 mk.point,.int .i64 mk.line] 139)):=hbel.trans (hb1.mono hbel.size)
   have hdd2:=hdd.below hb2
   have hbd2:=hbd.below hb2 hbd.lt
   have hbp:=Blk.new wr 139 #[.int .i64 mk.point,.int .i64 mk.line]
   obtain⟨a,k1,cap1,a2,k2,cap2,hl,_,_,hkA,_,_,_,hk2,hk19⟩:=hdd2.look hpI
   have HK2:Hid (k2=(E mk.point).length):=hk2
   clear hkA hk2 hc hd HK
   go_upto_region 3 with fail
   generalize hW:wr.alloc (.cells #[.int .i64 mk.point,.int .i64 mk.line] 139)=W at hb1 hb2 hdd2 hbd2 hbp hl⊢
   have e0:W.cell? ⟨bd,0,none⟩=some (.map (some bm)):=hbd2.cell 0
   have e1:W.cell? ⟨wr.heap.size,0,none⟩=some (.int .i64 mk.point):=hbp.cell 0
   have e2:W.cell? ⟨wr.heap.size,1,none⟩=some (.int .i64 mk.line):=hbp.cell 1
   have hl': ∀j,(Instr.lookup 89 (.map (some bm)) (.int .i64 mk.point) false).run Tryz.prog (W.drewN j)=.ok (ae5 (aaa L mk.point) (.slice a k1 cap1) (.slice a2 k2 cap2)) (W.drewN j):=fun j=>hl _ rfl
   have hf2:=a5i (aaa L mk.point) (.slice a k1 cap1) (.slice a2 k2 cap2)
   clear hl hW
   go_quiet (fail)
   have hb3:Below w.heap.size w (W.drewN nq):=hb2.trans (aby W nq _)
   by_cases hlong:18<k2
   ·have hFm:F=some mk:=by rw[←hKK];simp[←HK2.out,hlong]
    clear hKK
    go_wp2_with fail
    refine⟨rfl,HPO.out _ _ ⟨hb3,?_⟩⟩
    rw[hFm]
   ·have HK3:Hid ((L.drop (k+1)).find? (fun m=>decide (18<(E m.point).length))=F):=by show _=_;rw[←hKK];simp[←HK2.out,hlong]
    clear hKK
    go_wp2_with fail
    go_roundw
    case rel=>exact⟨k+1,by omega,by simp,HK3,hb3⟩
    case measure=>simp only[intOf];omega
  ·have hFm:F=none:=by rw[←HK.out,List.drop_of_length_le (by omega)];rfl
   clear HK
   go_wp2_with fail
   go_end0
   refine HPO.out _ _ ⟨hbel,?_⟩
   rw[hFm]
end Go.Proofs.YtfhpgmlfgjfknaaGreatDoor
namespace Go.Vf
def aaw (t:List UInt8):Except (Int×Int) (List Mk×(Int→List Int)):=
 if 65536<t.length then .error (2,0)
 else match aar (aa3 10 t) 0 [] with
 | .error e=>.error e
 | .ok L=>match ajl (aab L) 200000 (L.map Mk.point) TS.empty with
  | none=>.error (0,0)
  | some S=>match L.find? (fun m=>decide (S.loops m.point>0)) with
   | some m=>.error (42,m.line)
   | none=>match L.find? (fun m=>decide (18<(ad9 (ade L) (aab L) S.ord (fun _=>[]) m.point).length)) with
    | some m=>.error (43,m.line)
    | none=>.ok (L,ad9 (ade L) (aab L) S.ord (fun _=>[]))
theorem ajr {s:List UInt8}{p:Int}(h:abe s=some p):aed p=true:=by
 unfold abe at h
 split at h
 ·split at h
  ·cases h
  ·split at h
   ·rename_i hm
    simp only[Option.some.injEq] at h;subst h;exact hm
   ·cases h
 ·cases h
theorem as3: ∀ {l:List (List UInt8)} {ps:List Int},aa2 l=some ps→(∀q∈ps,aed q=true)∧ps.length=l.length:=by
 intro l
 induction l with
 | nil=>intro ps h;simp[aa2] at h;subst h;simp
 | cons a r ih=>
  intro ps h
  unfold aa2 at h
  split at h
  ·cases h
  ·rename_i p hp
   split at h
   ·cases h
   ·rename_i q hq
    simp at h;subst h
    obtain⟨h1,h2⟩:=ih hq
    exact⟨fun x hx=>by
     rcases List.mem_cons.1 hx with rfl | hx
     ·exact ajr hp
     ·exact h1 x hx,by simp[h2]⟩
theorem ary {s:List UInt8}{c:Int}(h:aci s=some c):0≤c∧c≤254:=by
 unfold aci at h
 split at h
 ·split at h
  ·cases h
  ·split at h
   ·rename_i hm
    simp only[Option.some.injEq] at h;subst h;omega
   ·cases h
 ·cases h
def a2b (m:Mk):Prop:=aed m.point=true∧(∀q∈m.parts,aed q=true)∧0≤m.cls∧m.cls≤254
theorem a3k {s:List UInt8}{p k:Int}{l:List Int}(h:acj s=some (p,k,l))(n:Int):a2b ⟨n,p,k,l⟩∧l.length≤s.length+1:=by
 unfold acj akl at h
 split at h
 ·rename_i a b c hc
  split at h
  ·cases h
  ·rename_i p' hp
   split at h
   ·cases h
   ·rename_i k' hk
    split at h
    ·cases h
    ·rename_i l' hl
     simp only[Option.some.injEq,Prod.mk.injEq] at h
     obtain⟨rfl,rfl,rfl⟩:=h
     have hcs:=abj 59 s c (by rw[hc];simp)
     unfold ad5 at hl
     split at hl
     ·simp only[Option.some.injEq] at hl;subst hl
      exact⟨⟨ajr hp,by simp,ary hk⟩,by simp⟩
     ·obtain⟨h1,h2⟩:=as3 hl
      have:=abl 32 c
      exact⟨⟨ajr hp,h1,ary hk⟩,by omega⟩
 ·cases h
theorem apu (c:UInt8): ∀l:List UInt8,((aa3 c l).map (fun x=>x.length+1)).sum=l.length+1:=by
 intro l
 induction l with
 | nil=>simp[aa3]
 | cons b r ih=>
  unfold aa3
  split
  ·simp[ih];omega
  ·split
   ·rename_i e
    exact absurd e (aig c r)
   ·rename_i h t e
    rw[e] at ih
    simp at ih⊢;omega
def anb (L:List Mk):Nat:=(L.map (fun m=>m.parts.length)).sum
theorem atr: ∀(C:List (List UInt8)) (n:Int) (acc L:List Mk),aar C n acc=.ok L→(∀m∈acc,a2b m)→(acc.map Mk.point).Nodup→acc.length≤4096→
  (∀m∈L,a2b m)∧(L.map Mk.point).Nodup∧L.length≤4096∧anb L≤anb acc+(C.map (fun x=>x.length+1)).sum:=by
 intro C
 induction C with
 | nil=>
  intro n acc L h h1 h2 h3
  simp only[aar,Except.ok.injEq] at h
  subst h
  exact⟨h1,h2,h3,by simp⟩
 | cons s r ih=>
  intro n acc L h h1 h2 h3
  rw[aar] at h
  split at h
  ·obtain⟨a,b,c,d⟩:=ih _ _ _ h h1 h2 h3
   exact⟨a,b,c,by simp;omega⟩
  ·split at h
   ·cases h
   ·rename_i p k l hm
    obtain⟨hok,hlen⟩:=a3k hm (n+1)
    split at h
    ·cases h
    ·rename_i hany
     split at h
     ·cases h
     ·rename_i hfull
      have hnew:p∉acc.map Mk.point:=fun hp=>by
       obtain⟨m,hm1,hm2⟩:=List.mem_map.1 hp
       exact hany (List.any_eq_true.2 ⟨m,hm1,by simpa using hm2⟩)
      obtain⟨a,b,c,d⟩:=ih _ _ _ h (fun m hm=>by
       rcases List.mem_append.1 hm with hm | hm
       ·exact h1 m hm
       ·simp at hm;subst hm;exact hok) (by
        rw[List.map_append,List.nodup_append]
        refine⟨h2,by simp,fun x hx y hy e=> ?_⟩
        simp at hy
        subst hy e
        exact hnew hx) (by simp;omega)
      refine⟨a,b,c,?_⟩
      have e1:anb (acc++[⟨n+1,p,k,l⟩])=anb acc+l.length:=by simp[anb]
      rw[e1] at d
      simp;omega
theorem ae1 {L:List Mk}{p q:Int}(h:q∈aab L p): ∃m∈L,m.point=p∧q∈m.parts:=by
 unfold aab at h
 cases hm:aau L p with
 | none=>rw[hm] at h;simp at h
 | some m=>
  rw[hm] at h
  exact⟨m,List.mem_of_find?_eq_some hm,by simpa using List.find?_some hm,by simpa using h⟩
theorem flat_len (L:List Mk):(L.flatMap Mk.parts).length=anb L:=by
 induction L with
 | nil=>rfl
 | cons a r ih=>simp only[List.flatMap_cons,List.length_append,ih,anb,List.map_cons,List.sum_cons]
theorem aer {L:List Mk}(h:L.length+anb L≤200000): ∃S,ajl (aab L) 200000 (L.map Mk.point) TS.empty=some S∧Inv (aab L) S []∧ ∀x∈L.map Mk.point,S.met x≠0:=by
 have hU: ∀x∈L.map Mk.point++L.flatMap Mk.parts,∀y∈aab L x,y∈L.map Mk.point++L.flatMap Mk.parts:=fun x _ y hy=>by
  obtain⟨m,hm,_,hq⟩:=ae1 hy
  exact List.mem_append_right _ (List.mem_flatMap.2 ⟨m,hm,hq⟩)
 have hlen:(L.map Mk.point++L.flatMap Mk.parts).length≤200000:=by rw[List.length_append,List.length_map,flat_len];exact h
 have hun:afc (L.map Mk.point++L.flatMap Mk.parts) TS.empty≤200000:=Nat.le_trans (List.length_filter_le _ _) hlen
 obtain⟨S,h1,h2,_,h4⟩:=a5v hU (N:=200000) (by omega) 200000 (L.map Mk.point) TS.empty (fun x hx=>List.mem_append_left _ hx) (Inv.start _) hun (by show(0:Int)+_≤_;omega)
 exact⟨S,h1,h2,h4⟩
theorem abc {t:List UInt8}{L:List Mk}(ht:t.length≤65536)(h:aar (aa3 10 t) 0 []=.ok L):(∀m∈L,a2b m)∧(L.map Mk.point).Nodup∧L.length≤4096∧anb L≤65537∧L.length+anb L≤200000:=by
 obtain⟨h1,h2,h3,h4⟩:=atr _ _ _ _ h (by simp) (by simp) (by simp)
 rw[apu] at h4
 simp only[anb,List.map_nil,List.sum_nil] at h4
 exact⟨h1,h2,h3,by unfold anb;omega,by unfold anb;omega⟩
theorem aou {L:List Mk}{m:Mk}(h:m∈L):m.parts.length≤anb L:=by
 induction L with
 | nil=>simp at h
 | cons a r ih=>
  simp only[anb,List.map_cons,List.sum_cons]
  rcases List.mem_cons.1 h with rfl | h
  ·omega
  ·have:=ih h;unfold anb at this;omega
end Go.Vf
