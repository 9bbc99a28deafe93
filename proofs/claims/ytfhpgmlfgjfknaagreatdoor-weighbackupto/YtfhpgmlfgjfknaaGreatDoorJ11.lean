/- Contracts and lemmas (nothing is claimed here). -/
import Derived.Test.YtfhpgmlfgjfknaaGreatDoorJ10
import Derived.Lib.AppendStr
import Derived.Lib.ItoaLen
import Derived.Lib.ItoaNum
import Derived.Sort.Row
import Derived.ProofKit
import Derived.OpenShut
import Derived.Deep.Slices
import Derived.SizedLaws
import Derived.Deep.Upon
namespace Go.Proofs.YtfhpgmlfgjfknaaGreatDoor
open Go.RowKit Go.Vf Go.Maps
theorem a0k:(Tryz.prog.info? 5).map (fun i=>(i.zero,i.size,i.bytes))=some (some (.int .u8 0),1,1):=by kernel_rfl
theorem azj {w:World}{b1 b2:Nat}{e1 e2:TypeId}{s1 s2 k1 k2:Nat}{v1 v2:Value}{x1 x2:List Value}(h1:w.ownsRow b1 e1 s1 v1 k1 x1)(h2:w.ownsRow b2 e2 s2 v2 k2 x2)(hne:e1≠e2):v1.ownBlock=none∨v1.ownBlock≠v2.ownBlock:=by
 cases h:v1.ownBlock with
 | none=>exact .inl rfl
 | some j=>
  refine .inr fun e=>hne ?_
  obtain⟨_,c1,f1,g1⟩:=aan h1 h
  obtain⟨_,c2,f2,g2⟩:=aan h2 e.symm
  rw[g1] at g2
  simp only[Option.some.injEq,Obj.cells.injEq] at g2
  exact g2.2.1
def aol (w w':World):Prop:= ∀b2 e2 s2 u k xs,e2≠5→w.ownsRow b2 e2 s2 u k xs→w'.ownsRow b2 e2 s2 u k xs
theorem afv {w:World}{ops:Array Oper}{rest:List Oper}{o:Oper}{a:Act}{Q:Exit→Act→World→Prop}(hgd:o.guard=none)(s x:Operand)
  (ho:o.op=.call {callee:=.builtin .append,args:= #[s,x],argTypes:= #[74,74]})
  (base:Nat) (v:Value) (acc:List UInt8) (hs:a.eval s=v) (hown:BOwn 5 w base v acc) (y z:UInt8) (n m:Int) (hn:n=(y.toNat:Int)) (hm:m=(z.toNat:Int)) (c:Nat) (hx:a.eval x=.slice (some ⟨w.heap.size,0,none⟩) 2 c)
  (hlen:acc.length≤1000000000000) (hbase:base≤w.heap.size)
  (h: ∀a' c' w',BOwn 5 w' base (.slice a' (acc.length+2) c') (acc++[y,z])→Below base w w'→Hid (aol w w')→wpList Tryz.prog ops Q rest (a.put o.dst (.slice a' (acc.length+2) c')) w'):
  wpList Tryz.prog ops Q (o::rest) a (w.alloc (.cells #[.int .u8 n,.int .u8 m] 5)):=by
 subst hn hm
 obtain⟨i,hi,hz,hsz,hby⟩:=info_parts a0k
 have hown':(w.alloc (.cells #[.int .u8 (y.toNat:Int),.int .u8 (z.toNat:Int)] 5)).ownsRow base 5 1 v acc.length (aa7 acc):=World.ownsRow.alloc hown _
 refine wpList_append_own (P:=Tryz.prog) _ hgd s x 74 ho base 5 i (.int .u8 0) 1 1 Tryz.underlying74 hi hz hsz hby rfl (by decide) v acc.length (aa7 acc) hs hown' ⟨w.heap.size,0,none⟩ 2 c [.int .u8 (y.toNat:Int),.int .u8 (z.toNat:Int)] hx rfl ?_ ?_ ?_ ?_ ?_ ?_
 ·intro j u hj
  match j,hj with
  | 0,hj=>simp at hj;subst hj;simp[Addr.add]
  | 1,hj=>simp at hj;subst hj;simp[Addr.add]
 ·intro u hu;simp at hu;rcases hu with rfl | rfl<;>rfl
 ·unfold maxLen;omega
 ·omega
 ·simp;omega
 ·intro v' w' h1 h2 _
  have h3:BOwn 5 w' base v' (acc++[y,z]):=by
   unfold BOwn
   have e1:aa7 (acc++[y,z])=aa7 acc++[.int .u8 (y.toNat:Int),.int .u8 (z.toNat:Int)]:=by simp[aa7]
   rw[e1,List.length_append]
   exact h1
  have hb:Below base w w':=((Below.refl base w).alloc hbase _).grown h2 (by simp;omega) (fun k hk=>(World.ownsRow.lt hown' k hk).1)
  have hO:aol w w':=fun b2 e2 s2 u k xs hne hu=>World.ownsRow.kept (World.ownsRow.alloc hu _) h2 (azj (World.ownsRow.alloc hu _) hown' hne)
  rcases h3.form with ⟨_,e⟩ | ⟨g',c',rfl,_⟩
  ·simp at e
  ·have el:(acc++[y,z]).length=acc.length+2:=by simp
   rw[el] at h3⊢
   exact h _ c' w' h3 hb hO
theorem a7i {n:Int}(h0:0≤n)(h1:n≤65535):n/256=((UInt8.ofNat (n/256).toNat).toNat:Int):=by
 have:(n/256).toNat<256:=by omega
 rw[UInt8.toNat_ofNat',Nat.mod_eq_of_lt (by omega)]
 omega
theorem a7h {n:Int}(_h0:0≤n):n % 256=((UInt8.ofNat (n % 256).toNat).toNat:Int):=by
 have:(n % 256).toNat<256:=by omega
 rw[UInt8.toNat_ofNat',Nat.mod_eq_of_lt (by omega)]
 omega
set_option maxHeartbeats 4000000 in
set_option maxRecDepth 20000 in
theorem amf {base b2:Nat}{kv u:Value}{acc:List UInt8}{zs:List Int}{w:World}(hk:BOwn 5 w base kv acc)(hu:UOwn w b2 u zs)(hz: ∀n∈zs,1≤n∧n≤65535)(hl:acc.length+2*zs.length≤900000000000)(hbase:base≤w.heap.size):
  Calls Tryz.prog 27 #[kv,u] w fun e w'=> ∃v',e=.returned v'∧BOwn 5 w' base v' (acc++awp zs)∧Below base w w'∧aol w w':=by
 obtain⟨ua,uc,rfl⟩: ∃ua uc,u=.slice ua zs.length uc:=by obtain⟨a,c,e,_⟩:=hu.uns;exact⟨a,c,e⟩
 obtain⟨ka,kc,rfl⟩: ∃ka kc,kv=.slice ka acc.length kc:=by
  rcases hk.form with ⟨rfl,rfl⟩ | ⟨g,c,rfl,_⟩
  ·exact⟨_,_,rfl⟩
  ·exact⟨_,_,rfl⟩
 generalize hR:acc++zs.flatMap two=R
 have HR:Hid (acc++(zs.drop 0).flatMap two=R):=hR
 have HE:Hid (acc++awp zs=R++[0,0]):=by show _=_;rw[←hR];unfold awp;rw[List.append_assoc]
 have HL0:Hid (acc.length+2*(zs.drop 0).length≤900000000000):=by show _≤_;simpa using hl
 clear hR
 have HK:Aside (BOwn 5 w base (.slice ka acc.length kc) acc):=hk
 have HU:Aside (UOwn w b2 (.slice ua zs.length uc) zs):=hu
 have HO:Hid (aol w w):=fun _ _ _ _ _ _ _ h=>h
 have hzl:zs.length≤900000000000:=by omega
 clear hk hu hl
 go_enter Tryz.func27,Tryz.ntmps27
 go_wp2_with fail
 go_loopw [0,9] (fun kv iv wr=> ∃(i:Nat) (ac:List UInt8) (a1:Option Addr) (c1:Nat),i≤zs.length∧iv=.int .i64 i∧kv=.slice a1 ac.length c1∧Aside (BOwn 5 wr base (.slice a1 ac.length c1) ac)∧Hid (ac++(zs.drop i).flatMap two=R)∧Hid (ac.length+2*(zs.drop i).length≤900000000000)∧Below base w wr∧Hid (aol w wr)) (fun _ iv _=>zs.length-(intOf iv).toNat)
 case atStart=>exact⟨0,acc,ka,kc,by omega,rfl,rfl,HK,HR,HL0,Below.refl _ _,HO⟩
 case round=>
  clear HR HK HO HL0
  obtain⟨i,ac,a1,c1,hi1,rfl,rfl,HK,HR,HL,hbr,HO⟩:=hrel
  have hbs:base≤wr.heap.size:=Nat.le_trans hbase hbr.size
  by_cases hlt:i<zs.length
  ·have hun:=(show UOwn wr b2 (.slice ua zs.length uc) zs from HO.out _ _ _ _ _ _ (by decide) HU.out).uns
   obtain⟨a',c',e',hc'⟩:=hun
   obtain⟨bu,hbu,_,x1⟩:=hc' i hlt
   obtain rfl:ua=some ⟨bu,0,none⟩:=(Value.slice.inj e').1.trans hbu
   have hdr:zs.drop i=zs[i]::zs.drop (i+1):=List.drop_eq_getElem_cons hlt
   have hzi:=hz _ (List.getElem_mem hlt)
   have hlen2:=HL.out
   have HR2:=HR.out
   rw[hdr] at HR2 hlen2
   rw[List.flatMap_cons,←List.append_assoc] at HR2
   rw[List.length_cons] at hlen2
   have HRR:Hid ((ac++two zs[i])++(zs.drop (i+1)).flatMap two=R):=HR2
   have HL2:Hid (ac.length+2+2*(zs.drop (i+1)).length≤900000000000):=by show _≤_;omega
   generalize zs[i]=n at*
   clear HR2 HR hdr hc' e' hbu HL
   have hal:ac.length≤1000000000000:=by omega
   have h1:Hid _:=a7i (n:=n) (by omega) (by omega)
   have h2:Hid _:=a7h (n:=n) (by omega)
   go_wp2_with (first | (at_builtin;refine afv rfl _ _ rfl base _ ac rfl HK.out (UInt8.ofNat (n/256).toNat) (UInt8.ofNat (n % 256).toNat) (n/256) (n % 256) h1.out h2.out 2 rfl hal hbs ?_;intro a5 c5 w5 hown5 hb5 HO5))
   have HK5:Aside (BOwn 5 w5 base (.slice a5 (ac.length+2) c5) (ac++two n)):=hown5
   have HO6:Hid (aol w w5):=fun b2 e2 s2 u k xs hne h=>HO5.out b2 e2 s2 u k xs hne (HO.out b2 e2 s2 u k xs hne h)
   have hbr5:=hbr.trans hb5
   clear hown5 HK HO5 HO hb5 h1 h2
   go_roundw
   case rel=>
    have el:(ac++two n).length=ac.length+2:=by rw[List.length_append];rfl
    exact⟨i+1,ac++two n,a5,c5,by omega,by first | rfl | simp | (simp;omega),by first | rfl | rw[el],by rw[el];exact HK5,HRR,by rw[el];exact HL2,hbr5,HO6⟩
   case measure=>simp only[intOf];omega
  ·have hRR:R=ac:=by rw[←HR.out,List.drop_of_length_le (by omega)];simp
   have hal:ac.length≤1000000000000:=by have:=HL.out;omega
   clear HR
   subst hRR
   go_wp2_with (first | (at_builtin;refine afv rfl _ _ rfl base _ R rfl HK.out 0 0 0 0 rfl rfl 2 rfl hal hbs ?_;intro a5 c5 w5 hown5 hb5 HO5))
   go_ret
   rw[HE.out]
   exact⟨_,rfl,hown5,hbr.trans hb5,fun b2 e2 s2 u k xs hne h=>HO5.out b2 e2 s2 u k xs hne (HO.out b2 e2 s2 u k xs hne h)⟩
theorem abn {e:TypeId}{w:World}{base:Nat}{v:Value}{acc:List UInt8}(h:BOwn e w base v acc): ∃a cap,v=.slice a acc.length cap:=aax h
theorem ahr {e:TypeId}{w w':World}{base:Nat}{v:Value}{acc:List UInt8}(h:BOwn e w base v acc)(hb:Below w.heap.size w w'):BOwn e w' base v acc:=aad h hb
def KO (w w':World):Prop:= ∀j t cs,t≠5→Blk w j t cs→Blk w' j t cs
theorem KO.refl (w:World):KO w w:=fun _ _ _ _ h=>h
theorem KO.trans {w w1 w2:World}(h:KO w w1)(h2:KO w1 w2):KO w w2:=fun j t cs ht hj=>h2 j t cs ht (h j t cs ht hj)
theorem KO.of_below {w w':World}(h:Below w.heap.size w w'):KO w w':=fun _ _ _ _ hj=>hj.below h hj.lt
theorem KO.alloc {w w':World}(h:KO w w')(o:Obj):KO w (w'.alloc o):=fun j t cs ht hj=>(Below.heap_alloc w' o j (h j t cs ht hj).lt).trans (h j t cs ht hj)
theorem KO.grown {w w':World}{base:Nat}{v:Value}{acc:List UInt8}(hown:BOwn 5 w base v acc)(hg:w.grownBy w' v.ownBlock):KO w w':=fun j _ _ ht hj=>(hg.block j hj.lt (aa9 hown hj (fun e=>ht e.symm))).trans hj
theorem aap {w:World}{ops:Array Oper}{rest:List Oper}{o:Oper}{a:Act}{Q:Exit→Act→World→Prop}(hgd:o.guard=none)(s x:Operand)
  (ho:o.op=.call {callee:=.builtin .append,args:= #[s,x],argTypes:= #[74,74]})
  (base:Nat) (v:Value) (acc:List UInt8) (hs:a.eval s=v) (hown:BOwn 5 w base v acc) (b:UInt8) (n:Int) (hn:n=(b.toNat:Int)) (c:Nat) (hx:a.eval x=.slice (some ⟨w.heap.size,0,none⟩) 1 c)
  (hlen:acc.length≤1099511627776) (hbase:base≤w.heap.size) (w0:World) (hb:Below base w0 w) (hk:KO w0 w)
  (h: ∀v' w',BOwn 5 w' base v' (acc++[b])→Below base w0 w'→base≤w'.heap.size→KO w0 w'→wpList Tryz.prog ops Q rest (a.put o.dst v') w'):
  wpList Tryz.prog ops Q (o::rest) a (w.alloc (.cells #[.int .u8 n] 5)):=by
 subst hn
 obtain⟨i,hi,hz,hsz,hby⟩:=info_parts a0k
 refine wpList_append_own (P:=Tryz.prog) _ hgd s x 74 ho base 5 i (.int .u8 0) 1 1 Tryz.underlying74 hi hz hsz hby rfl (by decide) v acc.length (aa7 acc) hs (BOwn.alloc hown _) ⟨w.heap.size,0,none⟩ 1 c [.int .u8 (b.toNat:Int)] hx rfl ?_ ?_ ?_ ?_ ?_ ?_
 ·intro j u hj
  match j,hj with
  | 0,hj=>simp at hj;subst hj;simp[Addr.add]
 ·intro u hu;simp at hu;subst hu;rfl
 ·unfold maxLen;omega
 ·omega
 ·simp;omega
 ·intro v' w' h1 h2 _
  refine h v' w' ?_ ?_ ?_ ?_
  ·unfold BOwn
   have e1:aa7 (acc++[b])=aa7 acc++[.int .u8 (b.toNat:Int)]:=by simp[aa7]
   rw[e1,List.length_append]
   exact h1
  ·exact(hb.alloc hbase _).grown h2 (by simp;omega) (fun k hk=>(World.ownsRow.lt (BOwn.alloc hown (.cells #[.int .u8 (b.toNat:Int)] 5)) k hk).1)
  ·have:=h2.size;simp at this;omega
  ·exact(hk.alloc _).trans (KO.grown (BOwn.alloc hown _) h2)
theorem afe {w:World}{ops:Array Oper}{rest:List Oper}{o:Oper}{a:Act}{Q:Exit→Act→World→Prop}(hgd:o.guard=none)(sl x:Operand)
  (ho:o.op=.call {callee:=.builtin .append,args:= #[sl,x],argTypes:= #[74,9]}) (base:Nat) (v:Value) (acc:List UInt8) (hs:a.eval sl=v) (hown:BOwn 5 w base v acc) (l:List UInt8) (hx:a.eval x=.string (bsz l))
  (hlen:acc.length+l.length≤1099511627776) (hbase:base≤w.heap.size)
  (h: ∀v' w',BOwn 5 w' base v' (acc++l)→Below base w w'→base≤w'.heap.size→KO w w'→wpList Tryz.prog ops Q rest (a.put o.dst v') w'):wpList Tryz.prog ops Q (o::rest) a w:=by
 obtain⟨i,hi,hz,hsz,hby⟩:=info_parts a0k
 have hsl:(bsz l).size=l.length:=by simp[ByteArray.size]
 refine Lib.wpList_append_own_string (P:=Tryz.prog) w hgd sl x 74 9 ho base 5 i Tryz.underlying74 Tryz.underlying9 hi hz hsz hby v acc.length (aa7 acc) hs hown (bsz l) hx (by rw[hsl];unfold maxLen;omega) (by rw[hsl];omega) hbase ?_
 intro v' w' h1 h2 _
 refine h v' w' ?_ ((Below.refl base w).grown h2 hbase (fun j hj=>(aan hown hj).1)) (Nat.le_trans hbase h2.size) (KO.grown hown h2)
 unfold BOwn
 rw[hsl] at h1
 rw[List.length_append]
 have e:aa7 (acc++l)=aa7 acc++Lib.strCells (bsz l):=by simp[aa7,Lib.strCells]
 rw[e]
 exact h1
set_option maxHeartbeats 4000000 in
set_option maxRecDepth 20000 in
theorem aef (u base:Nat)(hu:u≤1114111)(v:Value)(acc:List UInt8)(w:World)(hown:BOwn 5 w base v acc)(hacc:acc.length≤1000000000)(hbase:base≤w.heap.size)(_h6:8<base)(ht:w.cell? ⟨8,15,none⟩=some (.int .u8 4)):
  Calls Tryz.prog 155 #[v,.int .i64 (u:Int)] w fun e w'=> ∃v',e=.returned v'∧BOwn 5 w' base v' (acc++aae u)∧Below base w w'∧base≤w'.heap.size∧KO w w':=by
 have hu8:u<16^8:=by omega
 have hl6:=af4 u 6 (by omega) (by omega)
 obtain⟨a0,c0,rfl⟩:=abn hown
 go_enter Tryz.func155,Tryz.ntmps155
 go_wp2_with fail
 refine(avt u hu8 w ht).mono ?_
 rintro e w1 ⟨rfl,hb1⟩
 go_wp2_with fail
 refine(Tryz.strings_ToUpper_ascii (bsz (aca u)) w1 (by simp[ByteArray.size];omega) (fun j b hj=>ake u b (List.mem_of_getElem? (by simpa[bsz] using hj)))).mono ?_
 rw[show (bsz (aca u)).data.toList=aca u by simp]
 rintro e w2 ⟨rfl,hb2⟩
 have hown2:=ahr (ahr hown hb1) hb2
 have hbw2:Below base w w2:=(hb1.mono hbase).trans (hb2.mono (Nat.le_trans hbase hb1.size))
 have hsz2:base≤w2.heap.size:=Nat.le_trans hbase (Nat.le_trans hb1.size hb2.size)
 have hko2:KO w w2:=(KO.of_below hb1).trans (KO.of_below hb2)
 have HU:Hid (aae u=List.replicate (4-(aa1 u).length) 48++aa1 u):=rfl
 have hul:(aa1 u).length≤6:=by unfold aa1;rw[afg];exact hl6
 have hsz:(bsz (aa1 u)).size=(aa1 u).length:=by simp[ByteArray.size]
 rw[show (⟨(Lib.toUpperA (aca u)).toArray⟩:ByteArray)=bsz (aa1 u) from rfl]
 generalize aa1 u=up at HU hul hsz⊢
 clear hown hl6 hb1 hb2
 go_wp2_with fail
 go_loopw [0,12] (fun v i wr=> ∃(k:Nat),i=.int .i64 k∧k≤4-up.length∧BOwn 5 wr base v (acc++List.replicate k 48)∧Below base w wr∧base≤wr.heap.size∧Hid (KO w wr)) (fun _ i _=>4-up.length-(intOf i).toNat)
 case atStart=>exact⟨0,rfl,by omega,by simpa using hown2,hbw2,hsz2,hko2⟩
 case round=>
  obtain⟨k,rfl,hk,hown,hbel,hsz3,HKO⟩:=hrel
  have hll:(acc++List.replicate k 48).length≤1099511627776:=by simp;omega
  by_cases hlt:k+up.length<4
  ·have HR:Hid ((acc++List.replicate k 48)++[48]=acc++List.replicate (k+1) 48):=by show _=_;rw[List.append_assoc,List.replicate_succ']
   go_wp2_with (first | (at_builtin;refine aap rfl _ _ rfl base _ (acc++List.replicate k 48) rfl hown 48 _ rfl _ rfl hll hsz3 w hbel HKO.out ?_;intro v3 w3 hown3 hbel3 hsz4 hko3))
   go_roundw
   case rel=>exact⟨k+1,by simp,by omega,by rw[←HR.out];exact hown3,hbel3,hsz4,hko3⟩
   case measure=>simp only[intOf];omega
  ·have hk2:k=4-up.length:=by omega
   have HF:Hid ((acc++List.replicate k 48)++up=acc++aae u):=by show _=_;rw[HU.out,hk2,List.append_assoc]
   have hl2:(acc++List.replicate k 48).length+up.length≤1099511627776:=by simp;omega
   clear hk2
   go_wp2_with (first | (at_builtin;refine afe rfl _ _ rfl base _ (acc++List.replicate k 48) rfl hown up rfl hl2 hsz3 ?_;intro v3 w3 hown3 hbel3 hsz4 hko3))
   go_ret
   exact⟨v3,rfl,by rw[←HF.out];exact hown3,hbel.trans hbel3,hsz4,HKO.out.trans hko3⟩
structure Tb (w:World)(base:Nat):Prop where
 h6:8<base
 tz:w.cell? ⟨8,15,none⟩=some (.int .u8 4)
 pow:Lib.TabBelow Tryz.prog base w "internal/strconv.uint64pow10" .u64 Lib.pow10Tab
theorem Tb.below {w w':World}{base:Nat}(h:Tb w base)(hb:Below base w w'):Tb w' base:=⟨h.h6,(hb.cell (p:=⟨8,15,none⟩) h.h6).trans h.tz,h.pow.on hb⟩
theorem Tb.up {w:World}{base base':Nat}(h:Tb w base)(hb:base≤base'):Tb w base':=⟨Nat.lt_of_lt_of_le h.h6 hb,h.tz,fun w' hw=>h.pow w' (hw.mono hb)⟩
def af1 (u c:Nat)(us:List Nat):List UInt8:=aae u++[59]++Lib.itoa (c:Int)++[59]++aba us
theorem a3w (c:Nat)(hc:c≤254):(Lib.itoa (c:Int)).length≤21:=Lib.itoa_length_le _ (by omega) (by omega)
theorem KO.of_others {w w':World}(h:Lib.OthersKept 5 none w w'):KO w w':=fun j t cs ht hj=>h j _ hj (by simp) (fun c fz e=>by
 simp only[Obj.cells.injEq] at e
 exact ht e.2.1)
set_option maxHeartbeats 4000000 in
set_option maxRecDepth 20000 in
theorem ahw (base n₀ u c:Nat)(us:List Nat)(hu:u≤1114111)(hc:c≤254)(hus: ∀q∈us,q≤1114111)(hul:us.length≤65536)(v:Value)(acc:List UInt8)(a:Option Addr)(k cap:Nat)(w:World)(hown:BOwn 5 w base v acc)(hacc:acc.length≤100000)(hbase:base≤w.heap.size)(htb:Tb w base)
  (hn₀:n₀≤base) (hin:Ints n₀ w (.slice a k cap) (us.map fun q:Nat=>(q:Int))):
  Calls Tryz.prog 120 #[v,.agg #[.int .i64 (u:Int),.int .i64 (c:Int),.slice a k cap]] w fun e w'=> ∃v',e=.returned v'∧BOwn 5 w' base v' (acc++af1 u c us)∧Below base w w'∧base≤w'.heap.size∧KO w w':=by
 obtain⟨a',c',he⟩:=hin.val
 simp only[Value.slice.injEq,List.length_map] at he
 have HK:Hid (k=us.length):=he.2.1
 have hkl:k≤65536:=by rw[he.2.1];exact hul
 clear he
 have hb0:=(Below.refl base w).alloc hbase (.cells #[.int .i64 (u:Int),.int .i64 (c:Int),.slice a k cap] 153)
 have hbn:=Blk.new w 153 #[.int .i64 (u:Int),.int .i64 (c:Int),.slice a k cap]
 have hown0:BOwn 5 (w.alloc (.cells #[.int .i64 (u:Int),.int .i64 (c:Int),.slice a k cap] 153)) base v acc:=BOwn.alloc hown _
 have hko0:=(KO.refl w).alloc (.cells #[.int .i64 (u:Int),.int .i64 (c:Int),.slice a k cap] 153)
 have hsz0:base≤(w.alloc (.cells #[.int .i64 (u:Int),.int .i64 (c:Int),.slice a k cap] 153)).heap.size:=by simp;omega
 go_enter Tryz.func120,Tryz.ntmps120
 go_upto_region 1 with fail
 generalize w.alloc (.cells #[.int .i64 (u:Int),.int .i64 (c:Int),.slice a k cap] 153)=W at hb0 hbn hown0 hsz0 hko0⊢
 have e0:W.cell? ⟨w.heap.size,0,none⟩=some (.int .i64 (u:Int)):=hbn.cell 0
 have htb0:=htb.below hb0
 go_wp2_with fail
 refine(aef u base hu v acc W hown0 (by omega) hsz0 htb0.h6 htb0.tz).mono ?_
 rintro e w1 ⟨v1,rfl,hown1,hb1,hsz1,hko1⟩
 have hpl:=anj u hu
 have hbn1:=hko1 _ _ _ (by decide) hbn
 have e1:w1.cell? ⟨w.heap.size,1,none⟩=some (.int .i64 (c:Int)):=hbn1.cell 1
 have hl1:(acc++aae u).length≤1099511627776:=by simp;omega
 go_wp2_with (first | (at_builtin;refine aap rfl _ _ rfl base _ (acc++aae u) rfl hown1 59 _ rfl _ rfl hl1 hsz1 w1 (Below.refl _ _) (KO.refl _) ?_;intro v2 w2 hown2 hb2 hsz2 hko2;have hbn2:=hko2 _ _ _ (by decide) hbn1;have e2:w2.cell? ⟨w.heap.size,1,none⟩=some (.int .i64 (c:Int)):=hbn2.cell 1))
 have htb2:=(htb0.below hb1).below hb2
 have hil:=a3w c hc
 refine(Tryz.strconv_AppendInt_10 base _ (c:Int) (by omega) (by omega) v2 _ w2 hown2 hsz2 (by simp;omega) htb2.pow).mono ?_
 rintro e w3 ⟨v3,rfl,hown3',hb3,hok3⟩
 have hko3:=KO.of_others hok3
 have hown3:BOwn 5 w3 base v3 (((acc++aae u)++[59])++Lib.itoa (c:Int)):=by
  generalize (acc++aae u)++[59]=hd0 at hown3'⊢
  unfold BOwn
  rw[List.length_append]
  have e:aa7 (hd0++Lib.itoa (c:Int))=aa7 hd0++Lib.byteCells (Lib.itoa (c:Int)):=by simp[aa7,Lib.byteCells]
  rw[e]
  exact hown3'
 have hsz3:base≤w3.heap.size:=Nat.le_trans hsz2 hb3.size
 have hbn3:=hko3 _ _ _ (by decide) hbn2
 have hl3:(((acc++aae u)++[59])++Lib.itoa (c:Int)).length≤1099511627776:=by simp;omega
 clear hown3' hok3
 go_wp2_with (first | (at_builtin;refine aap rfl _ _ rfl base _ (((acc++aae u)++[59])++Lib.itoa (c:Int)) rfl hown3 59 _ rfl _ rfl hl3 hsz3 w3 (Below.refl _ _) (KO.refl _) ?_;intro v4 w4 hown4 hb4 hsz4 hko4;have hbn4:=hko4 _ _ _ (by decide) hbn3;have e4:w4.cell? ⟨w.heap.size,2,none⟩=some (.slice a k cap):=hbn4.cell 2))
 have hbel4:Below base w w4:=(((hb0.trans hb1).trans hb2).trans hb3).trans hb4
 have hkoo4:KO w w4:=(((hko0.trans hko1).trans hko2).trans hko3).trans hko4
 have HM:Hid (acc++af1 u c us=((((acc++aae u)++[59])++Lib.itoa (c:Int))++[59])++aba us):=by show _=_;simp[af1]
 have hhl:((((acc++aae u)++[59])++Lib.itoa (c:Int))++[59]).length≤200000:=by simp;omega
 generalize (((acc++aae u)++[59])++Lib.itoa (c:Int))++[59]=hd at hown4 HM hhl
 clear hown0 hown1 hown2 hown3 hbn hbn1 hbn2 hbn3 e0 e1 e2 htb0 htb2 hko0 hko1 hko2 hko3 hko4 hb0 hb1 hb2 hb3 hb4
 go_loopw [0,22] (fun v i wr=> ∃(j:Nat),i=.int .i64 j∧j≤k∧BOwn 5 wr base v (hd++aba (us.take j))∧Below base w wr∧base≤wr.heap.size∧Hid (KO w wr)) (fun _ i _=>k-(intOf i).toNat)
 case atStart=>exact⟨0,rfl,by omega,by simpa[aba] using hown4,hbel4,hsz4,hkoo4⟩
 case round=>
  obtain⟨j,rfl,hj,hown,hbel,hsz,HKO⟩:=hrel
  clear hown4 hbel4 hsz4 hkoo4
  by_cases hlt:j<k
  ·have hltp:j<us.length:=by rw[←HK.out];exact hlt
   have hstep:=ant us j hltp
   have hq:=hus _ (List.getElem_mem hltp)
   have hjl:=a0d (us.take j) (fun x hx=>hus x (List.mem_of_mem_take hx))
   have hjl2:(us.take j).length=j:=by rw[List.length_take];omega
   obtain⟨bp,op,hao,hnk,hblt,hcell⟩:=(hin.below hbel hn₀).cell (fun e=>by have:=congrArg List.length e;simp at this;rw[this] at hltp;simp at hltp)
   have hcj:=hcell j (by simpa using hltp)
   rw[show (us.map fun q:Nat=>(q:Int))[j]?.getD 0=(us[j]:Int) by simp[List.getElem?_eq_getElem hltp]] at hcj
   generalize us[j]=q at hcj hq hstep
   generalize aba (us.take j)=js at hown hstep hjl
   subst hao
   have htbr:=htb.below hbel
   clear hcell hnk
   by_cases hj0:0<j
   ·rw[if_pos hj0] at hstep
    have HS:Hid (hd++aba (us.take (j+1))=((hd++js)++[32])++aae q):=by show _=_;rw[hstep];simp
    have hl5:(hd++js).length≤1099511627776:=by simp;omega
    clear hstep
    go_wp2_with (first | (at_builtin;refine aap rfl _ _ rfl base _ (hd++js) rfl hown 32 _ rfl _ rfl hl5 hsz w hbel HKO.out ?_;intro v5 w5 hown5 hb5 hsz5 hko5))
    refine(aef q base hq v5 _ w5 hown5 (by simp;omega) hsz5 htb.h6 (htb.below hb5).tz).mono ?_
    rintro e w6 ⟨v6,rfl,hown6,hb6,hsz6,hko6⟩
    go_wp2_with fail
    go_roundw
    case rel=>exact⟨j+1,by simp,by omega,by rw[HS.out];exact hown6,hb5.trans hb6,hsz6,hko5.trans hko6⟩
    case measure=>simp only[intOf];omega
   ·rw[if_neg hj0] at hstep
    have HS:Hid (hd++aba (us.take (j+1))=(hd++js)++aae q):=by show _=_;rw[hstep];simp
    have hj00:decide ((0:Int)<(j:Int))=false:=by simp;omega
    clear hstep
    go_wp2_with fail
    refine(aef q base hq _ _ wr hown (by simp;omega) hsz htb.h6 htbr.tz).mono ?_
    rintro e w6 ⟨v6,rfl,hown6,hb6,hsz6,hko6⟩
    go_wp2_with fail
    go_roundw
    case rel=>exact⟨j+1,by simp,by omega,by rw[HS.out];exact hown6,hbel.trans hb6,hsz6,HKO.out.trans hko6⟩
    case measure=>simp only[intOf];omega
  ·have HF:Hid (hd++aba (us.take j)=acc++af1 u c us):=by show _=_;rw[HM.out,List.take_of_length_le (by rw[←HK.out];omega)]
   go_wp2_with fail
   go_ret
   exact⟨_,rfl,by rw[←HF.out];exact hown,hbel,hsz,HKO.out⟩
end Go.Proofs.YtfhpgmlfgjfknaaGreatDoor
namespace Go.Vf
structure PM where
 point:Int
 cls:Int
 parts:List Int
end Go.Vf
namespace Go.Proofs.YtfhpgmlfgjfknaaGreatDoor
open Go.RowKit Go.Vf Go.Maps
def MIn (n₀:Nat)(w:World)(v:Value)(l:List PM):Prop:=
 (∃a cap,v=.slice a 0 cap∧l=[])∨ ∃b off cap,v=.slice (some ⟨b,off,none⟩) l.length cap∧b<n₀∧ ∀j (hj:j<l.length),∃pa pk pc,w.cell? ⟨b,off+j*3,none⟩=some (.int .i64 l[j].point)∧w.cell? ⟨b,off+j*3+1,none⟩=some (.int .i64 l[j].cls)∧
  w.cell? ⟨b,off+j*3+2,none⟩=some (.slice pa pk pc)∧Ints n₀ w (.slice pa pk pc) l[j].parts
theorem MIn.val {n₀:Nat}{w:World}{v:Value}{l:List PM}(h:MIn n₀ w v l): ∃a cap,v=.slice a l.length cap:=by
 rcases h with ⟨a,cap,rfl,rfl⟩ | ⟨b,off,cap,rfl,_⟩
 ·exact⟨_,_,rfl⟩
 ·exact⟨_,_,rfl⟩
theorem MIn.below {n₀ n:Nat}{w w':World}{v:Value}{l:List PM}(h:MIn n₀ w v l)(hb:Below n w w')(hn:n₀≤n):MIn n₀ w' v l:=by
 rcases h with h | ⟨b,off,cap,e,hlt,hc⟩
 ·exact .inl h
 ·refine .inr ⟨b,off,cap,e,hlt,fun j hj=> ?_⟩
  obtain⟨pa,pk,pc,h1,h2,h3,h4⟩:=hc j hj
  exact⟨pa,pk,pc,(hb.cell (p:=⟨b,_,none⟩) (show b<n by omega)).trans h1,(hb.cell (p:=⟨b,_,none⟩) (show b<n by omega)).trans h2,(hb.cell (p:=⟨b,_,none⟩) (show b<n by omega)).trans h3,h4.below hb hn⟩
theorem MIn.at {n₀:Nat}{w:World}{a:Option Addr}{k cap:Nat}{l:List PM}(h:MIn n₀ w (.slice a k cap) l){j:Nat}(hj:j<l.length): ∃b off,a=some ⟨b,off,none⟩∧ ∃pa pk pc,w.cell? ⟨b,off+j*3,none⟩=some (.int .i64 l[j].point)∧w.cell? ⟨b,off+j*3+1,none⟩=some (.int .i64 l[j].cls)∧
  w.cell? ⟨b,off+j*3+2,none⟩=some (.slice pa pk pc)∧Ints n₀ w (.slice pa pk pc) l[j].parts:=by
 rcases h with ⟨a',cap',e,rfl⟩ | ⟨b,off,cap',e,hlt,hc⟩
 ·simp at hj
 ·simp only[Value.slice.injEq] at e
  exact⟨b,off,e.1,hc j hj⟩
end Go.Proofs.YtfhpgmlfgjfknaaGreatDoor
namespace Go.Vf
def aag (L:List Mk):List PM:=((L.map Mk.point).mergeSort (fun x y=>decide (x≤y))).map fun p=>⟨p,aaa L p,aab L p⟩
end Go.Vf
namespace Go.Proofs.YtfhpgmlfgjfknaaGreatDoor
open Go.RowKit Go.Vf Go.Maps Go.Sort Go.Shelf
theorem a0l:(Tryz.prog.info? 153).map (fun i=>(i.zero,i.size,i.bytes))=some (some (.agg #[.int .i64 0,.int .i64 0,.slice none 0 0]),3,40):=by kernel_rfl
def abr (ps:List (PM×Value)):List Value:=ps.flatMap fun x=>[.int .i64 x.1.point,.int .i64 x.1.cls,x.2]
def MOwn (w:World)(base:Nat)(v:Value)(ps:List (PM×Value)):Prop:=w.ownsRow base 153 3 v ps.length (abr ps)∧ ∀x∈ps,IOwn w base x.2 x.1.parts
theorem a4e (ps:List (PM×Value)): ∀(j:Nat) (hj:j<ps.length),(abr ps)[j*3]? =some (.int .i64 ps[j].1.point)∧(abr ps)[j*3+1]? =some (.int .i64 ps[j].1.cls)∧(abr ps)[j*3+2]? =some ps[j].2:=by
 induction ps with
 | nil=>intro j hj;simp at hj
 | cons a r ih=>
  intro j hj
  have e:abr (a::r)=.int .i64 a.1.point:: .int .i64 a.1.cls::a.2::abr r:=by simp[abr]
  rw[e]
  cases j with
  | zero=>simp
  | succ j=>
   have:=ih j (by simpa using hj)
   rw[show (j+1)*3=j*3+1+1+1 by omega]
   simpa using this
theorem MOwn.min {w:World}{base:Nat}{v:Value}{ps:List (PM×Value)}(h:MOwn w base v ps):MIn w.heap.size w v (ps.map Prod.fst):=by
 rcases h.1.2 with ⟨rfl,h0⟩ | ⟨g,cap,cur,rfl,_,hg,_,_,_,ht⟩
 ·exact .inl ⟨_,_,rfl,by rw[List.eq_nil_of_length_eq_zero h0];rfl⟩
 ·refine .inr ⟨g,0,cap,by simp,(Array.getElem?_eq_some_iff.1 hg).1,fun j hj=> ?_⟩
  have hj':j<ps.length:=by simpa using hj
  obtain⟨h1,h2,h3⟩:=a4e ps j hj'
  rw[←ht] at h1 h2 h3
  rw[List.getElem?_take_of_lt (by omega)] at h1 h2 h3
  have hi:=h.2 ps[j] (List.getElem_mem hj')
  obtain⟨pa,pc,hv⟩:=hi.val
  refine⟨pa,ps[j].1.parts.length,pc,?_,?_,?_,?_⟩
  ·simp only[World.cell?,hg,Nat.zero_add,List.getElem_map];simpa using h1
  ·simp only[World.cell?,hg,Nat.zero_add,List.getElem_map];simpa using h2
  ·simp only[World.cell?,hg,Nat.zero_add];rw[←hv];simpa using h3
  ·rw[←hv];simpa using hi.ints
end Go.Proofs.YtfhpgmlfgjfknaaGreatDoor
namespace Go.Proofs.YtfhpgmlfgjfknaaGreatDoor
open Go.RowKit Go.Vf Go.Maps Go.Sort
theorem adm (L:List Mk):(aag L).length=L.length:=by
 unfold aag
 rw[List.length_map,List.length_mergeSort,List.length_map]
end Go.Proofs.YtfhpgmlfgjfknaaGreatDoor
namespace Go.Proofs.YtfhpgmlfgjfknaaGreatDoor
open Go.RowKit Go.Vf Go.Maps
theorem age {u:Nat}(hu:u≤1114111)(hm:aed (u:Int)=true):abe (aae u)=some (u:Int):=by
 have hl6:(aa1 u).length≤6:=acs u 6 (by omega) (by omega)
 have hp:=ak4 u
 have hlt:=adz u _ (Nat.le_refl _)
 have hlen:(aae u).length=(4-(aa1 u).length)+(aa1 u).length:=by rw[aay,acn]
 unfold abe
 rw[if_pos,aay,ahj]
 ·have hmod:u % 16^((4-(aa1 u).length)+(aa1 u).length)=u:=Nat.mod_eq_of_lt (Nat.lt_of_lt_of_le hlt (Nat.pow_le_pow_right (by omega) (by omega)))
  rw[hmod,Nat.zero_mul,Nat.zero_add]
  show(if aed (u:Int)=true then _ else _)=_
  rw[if_pos hm]
 ·by_cases h4:(aa1 u).length≤4
  ·exact .inl (by omega)
  ·refine .inr ⟨by omega,by omega,?_⟩
   rw[aay]
   obtain⟨k,hk⟩: ∃k,(aa1 u).length=k+1:=⟨(aa1 u).length-1,by omega⟩
   have hge:16^k≤u:=Nat.not_lt.1 fun h=>by have:=acs u k h (by omega);omega
   rw[hk] at hlt
   rw[show (4-(aa1 u).length)+(aa1 u).length=k+1 by omega,agh]
   intro e
   have e2:=am9 _ (Nat.mod_lt _ (by omega)) (Option.some.inj e)
   have h1:1≤u/16^k:=(Nat.le_div_iff_mul_le (Nat.pow_pos (by omega))).2 (by omega)
   have h2:u/16^k<16:=(Nat.div_lt_iff_lt_mul (Nat.pow_pos (by omega))).2 (by rw[Nat.pow_succ] at hlt;omega)
   omega
theorem adi {s:List UInt8}{p:Int}(h:abe s=some p): ∃u:Nat,p=(u:Int)∧u≤1114111∧aed (u:Int)=true∧s=aae u:=by
 unfold abe at h
 split at h
 ·rename_i hs
  split at h
  ·cases h
  ·rename_i n hn
   split at h
   ·rename_i hm
    have hpn:(n:Int)=p:=by simpa using h
    have hmn:n≤1114111:=by
     unfold aed at hm
     simp at hm
     omega
    obtain⟨r,hr,hnr,hpad⟩:=ao7 s 0 n hn
    have hrn:r=n:=by simpa using hnr.symm
    subst hrn
    refine⟨r,hpn.symm,hmn,hm,?_⟩
    have hl:=acs r s.length hr (by omega)
    rw[aay]
    suffices hE:(4-(aa1 r).length)+(aa1 r).length=s.length by rw[hE];exact hpad
    rcases hs with h4 | ⟨h5,h6,hh⟩
    ·omega
    ·obtain⟨k,hk⟩: ∃k,s.length=k+1:=⟨s.length-1,by omega⟩
     have hgt: ¬(aa1 r).length≤k:=fun hle=>by
      have hlt:=adz r k hle
      rw[hpad,hk,agh,Nat.div_eq_of_lt hlt] at hh
      exact hh rfl
     omega
   ·cases h
 ·cases h
theorem a3x:((List.range 255).all fun c=>(aci (Lib.itoa (c:Int))==some (c:Int))&&(Lib.itoa (c:Int)).all (fun b=> !(b==10)&& !(b==59)))=true:=by kernel_rfl
theorem ags {c:Nat}(hc:c≤254):aci (Lib.itoa (c:Int))=some (c:Int)∧ ∀b∈Lib.itoa (c:Int),b≠10∧b≠59:=by
 have:=List.all_eq_true.1 a3x c (List.mem_range.2 (by omega))
 simp only[Bool.and_eq_true,beq_iff_eq,List.all_eq_true,Bool.not_eq_true',beq_eq_false_iff_ne] at this
 exact⟨this.1,fun b hb=>this.2 b hb⟩
def axj (c:Nat):List UInt8:=if c<10 then [UInt8.ofNat (48+c)] else if c<100 then [UInt8.ofNat (48+c/10),UInt8.ofNat (48+c % 10)] else [UInt8.ofNat (48+c/100),UInt8.ofNat (48+c/10 % 10),UInt8.ofNat (48+c % 10)]
theorem a0i:((List.range 255).all fun c=>Lib.itoa (c:Int)==axj c)=true:=by kernel_rfl
theorem a0h {c:Nat}(hc:c≤254):Lib.itoa (c:Int)=axj c:=by
 have:=List.all_eq_true.1 a0i c (List.mem_range.2 (by omega))
 simpa using this
theorem aho {c:UInt8}{d:Nat}(h:ail c=some d):d<10∧c=UInt8.ofNat (48+d)∧(d=0→c=48):=by
 unfold ail at h
 split at h
 ·rename_i hh
  simp only[Option.some.injEq] at h
  have hc:c=UInt8.ofNat (48+d):=by
   apply UInt8.toNat_inj.1
   rw[UInt8.toNat_ofNat']
   omega
  refine⟨by omega,hc,fun e=> ?_⟩
  subst e
  exact hc
 ·cases h
theorem alu {s:List UInt8}{k:Int}(h:aci s=some k): ∃c:Nat,k=(c:Int)∧c≤254∧s=Lib.itoa (c:Int):=by
 unfold aci at h
 split at h
 ·rename_i hs
  split at h
  ·cases h
  ·rename_i n hn
   split at h
   ·rename_i hle
    refine⟨n,by simpa using h.symm,hle,?_⟩
    rw[a0h hle]
    rcases hs with rfl | ⟨h1,h2,h3⟩
    ·simp[acw,ail] at hn
     subst hn
     rfl
    ·match s,h1,h2,h3,hn with
     | [a],_,h2,_,hn=>
      simp only[acw] at hn
      cases ha:ail a with
      | none=>rw[ha] at hn;cases hn
      | some d=>
       rw[ha] at hn
       obtain⟨q1,q2,_⟩:=aho ha
       have e:0*10+d=n:=by simpa using hn
       subst e
       unfold axj
       rw[if_pos (by omega),q2]
       simp
     | [a,b],_,h2,_,hn=>
      simp only[acw] at hn
      cases ha:ail a with
      | none=>rw[ha] at hn;cases hn
      | some d=>
       rw[ha] at hn
       simp only at hn
       cases hb:ail b with
       | none=>rw[hb] at hn;cases hn
       | some d2=>
        rw[hb] at hn
        obtain⟨q1,q2,q3⟩:=aho ha
        obtain⟨r1,r2,_⟩:=aho hb
        have e:(0*10+d)*10+d2=n:=by simpa using hn
        have hd:d≠0:=fun e0=>by rw[q3 e0] at h2;simp at h2
        subst e
        unfold axj
        rw[if_neg (by omega),if_pos (by omega),q2,r2,show((0*10+d)*10+d2)/10=d by omega,show((0*10+d)*10+d2) % 10=d2 by omega]
     | [a,b,c],_,h2,_,hn=>
      simp only[acw] at hn
      cases ha:ail a with
      | none=>rw[ha] at hn;cases hn
      | some d=>
       rw[ha] at hn
       simp only at hn
       cases hb:ail b with
       | none=>rw[hb] at hn;cases hn
       | some d2=>
        rw[hb] at hn
        simp only at hn
        cases hc:ail c with
        | none=>rw[hc] at hn;cases hn
        | some d3=>
         rw[hc] at hn
         obtain⟨q1,q2,q3⟩:=aho ha
         obtain⟨r1,r2,_⟩:=aho hb
         obtain⟨s1,s2,_⟩:=aho hc
         have e:((0*10+d)*10+d2)*10+d3=n:=by simpa using hn
         have hd:d≠0:=fun e0=>by rw[q3 e0] at h2;simp at h2
         subst e
         unfold axj
         rw[if_neg (by omega),if_neg (by omega),q2,r2,s2,show(((0*10+d)*10+d2)*10+d3)/100=d by omega,show(((0*10+d)*10+d2)*10+d3)/10 % 10=d2 by omega,show(((0*10+d)*10+d2)*10+d3) % 10=d3 by omega]
     | a::b::c::x::r,_,_,h3,_=>simp at h3
   ·cases h
 ·cases h
def aks (m:Mk):PM:=⟨m.point,m.cls,m.parts⟩
theorem apd {L:List Mk}{m:Mk}(hnd:(L.map Mk.point).Nodup)(hm:m∈L):aau L m.point=some m:=by
 unfold aau
 induction L with
 | nil=>simp at hm
 | cons a r ih=>
  rw[List.map_cons,List.nodup_cons] at hnd
  rcases List.mem_cons.1 hm with rfl | hm
  ·simp
  ·rw[List.find?_cons_of_neg]
   ·exact ih hnd.2 hm
   ·simp only[beq_iff_eq]
    intro e
    exact hnd.1 (List.mem_map.2 ⟨m,hm,e.symm⟩)
theorem ae3 {L:List Mk}(hnd:(L.map Mk.point).Nodup):(aag L).Perm (L.map aks):=by
 unfold aag
 refine((List.mergeSort_perm (L.map Mk.point) _).map _).trans ?_
 rw[List.map_map]
 have this: ∀m∈L,((fun p=>(⟨p,aaa L p,aab L p⟩:PM)) ∘ Mk.point) m=aks m:=fun m hm=>by
  have hma:=apd hnd hm
  simp[aaa,aab,hma,aks]
 rw[List.map_congr_left this]
theorem aov: ∀ {l:List Int},l.Pairwise (fun a b=>decide (a≤b)=true)→l.Nodup→l.Pairwise (· < ·):=by
 intro l
 induction l with
 | nil=>intro _ _;simp
 | cons a r ih=>
  intro h1 h2
  rw[List.pairwise_cons] at h1⊢
  rw[List.nodup_cons] at h2
  refine⟨fun b hb=> ?_,ih h1.2 h2.2⟩
  have:=h1.1 b hb
  have hne:a≠b:=fun e=>h2.1 (e▸hb)
  simp at this
  omega
theorem aem (L:List Mk):(aag L).map PM.point=(L.map Mk.point).mergeSort (fun x y=>decide (x≤y)):=by
 unfold aag
 rw[List.map_map]
 conv=>rhs;rw[←List.map_id ((L.map Mk.point).mergeSort _)]
 rfl
theorem acl {L:List Mk}(hnd:(L.map Mk.point).Nodup):((aag L).map PM.point).Pairwise (· < ·):=by
 rw[aem]
 refine aov (List.pairwise_mergeSort (le:=fun x y=>decide (x≤y)) (fun a b c h1 h2=>by simp at h1 h2⊢;omega) (fun a b=>by simp;omega) _) ?_
 exact(List.mergeSort_perm _ _).nodup_iff.2 hnd
theorem ajs {L:List Mk}(p:Int):(aau L p=none∧p∉L.map Mk.point)∨ ∃m∈L,m.point=p∧aau L p=some m:=by
 cases h:aau L p with
 | none=>
  refine .inl ⟨rfl,fun hp=> ?_⟩
  obtain⟨m,hm,e⟩:=List.mem_map.1 hp
  have:=List.find?_eq_none.1 h m hm
  simp[e] at this
 | some m=>exact .inr ⟨m,List.mem_of_find?_eq_some h,by simpa using List.find?_some h,rfl⟩
end Go.Proofs.YtfhpgmlfgjfknaaGreatDoor
namespace Go.Proofs.YtfhpgmlfgjfknaaGreatDoor
open Go.ChangeShapes Go.WideShapes Go.ChangeAt Go.RowKit Go.Deep Go.Vf
theorem aw7 {α:Type}{l:List α}(h:l.length=3): ∃a b c,l=[a,b,c]:=by
 match l,h with
 | [a,b,c],_=>exact⟨a,b,c,rfl⟩
end Go.Proofs.YtfhpgmlfgjfknaaGreatDoor
namespace Go.Proofs.YtfhpgmlfgjfknaaGreatDoor
open Go.RowKit Go.Vf Go.Maps
theorem au3 {w:World}{base:Nat}{e:TypeId}{size:Nat}{v:Value}{n:Nat}{xs:List Value}(h:w.ownsRow base e size v n xs)(hn:0<n): ∃g cap,v=.slice (some ⟨g,0,none⟩) n cap∧n≤cap∧g<w.heap.size∧ ∀j u,xs[j]? =some u→w.cell? ⟨g,j,none⟩=some u:=by
 rcases h.2 with ⟨_,h0⟩ | ⟨g,cap,cur,hv,hb,hg,hc,hm,hs,ht⟩
 ·omega
 ·refine⟨g,cap,hv,hc,(Array.getElem?_eq_some_iff.1 hg).1,fun j u hu=> ?_⟩
  rw[←ht] at hu
  have hj:=(List.getElem?_eq_some_iff.1 hu).1
  rw[List.getElem?_take_of_lt (by rw[List.length_take] at hj;omega)] at hu
  simp only[World.cell?,hg]
  simpa using hu
theorem alz (ps:List (PM×Value)):(abr ps).length=ps.length*3:=by
 induction ps with
 | nil=>rfl
 | cons a r ih=>simp[abr] at ih⊢;omega
theorem ah1 {w:World}{ops:Array Oper}{rest:List Oper}{o:Oper}{a:Act}{Q:Exit→Act→World→Prop}(hgd:o.guard=none)(s x:Operand)
  (ho:o.op=.call {callee:=.builtin .append,args:= #[s,x],argTypes:= #[60,60]})
  (base:Nat) (v:Value) (n:Nat) (xs:List Value) (hs:a.eval s=v) (hown:w.ownsRow base 153 3 v n xs) (p c:Int) (ua:Option Addr) (uk uc:Nat) (hx:a.eval x=.slice (some ⟨w.heap.size,0,none⟩) 1 1)
  (hlen:n≤1099511627776) (hbase:base≤w.heap.size)
  (h: ∀a' c' w',w'.ownsRow base 153 3 (.slice a' (n+1) c') (n+1) (xs++[.int .i64 p,.int .i64 c,.slice ua uk uc])→(w.alloc (.cells #[.int .i64 p,.int .i64 c,.slice ua uk uc] 153)).grownBy w' v.ownBlock→((Value.slice a' (n+1) c').ownBlock=v.ownBlock∨(Value.slice a' (n+1) c').ownBlock=some (w.alloc (.cells #[.int .i64 p,.int .i64 c,.slice ua uk uc] 153)).heap.size)→wpList Tryz.prog ops Q rest (a.put o.dst (.slice a' (n+1) c')) w'):
  wpList Tryz.prog ops Q (o::rest) a (w.alloc (.cells #[.int .i64 p,.int .i64 c,.slice ua uk uc] 153)):=by
 obtain⟨i,hi,hz,hsz,hby⟩:=info_parts a0l
 have hb:=Blk.new w 153 #[.int .i64 p,.int .i64 c,.slice ua uk uc]
 refine wpList_append_own_at (P:=Tryz.prog) _ hgd s x 60 ho base 153 i _ 3 40 Tryz.underlying60 hi hz hsz hby rfl (by decide) v n xs hs (World.ownsRow.alloc hown _) ⟨w.heap.size,0,none⟩ 1 1 [.int .i64 p,.int .i64 c,.slice ua uk uc] hx (by rfl) ?_ ?_ ?_ ?_ ?_ ?_
 ·intro j u hu
  match j,hu with
  | 0,hu=>simp at hu;subst hu;exact hb.cell 0
  | 1,hu=>simp at hu;subst hu;exact hb.cell 1
  | 2,hu=>simp at hu;subst hu;exact hb.cell 2
 ·intro u hu;simp at hu;rcases hu with rfl | rfl | rfl<;>rfl
 ·unfold maxLen;omega
 ·omega
 ·simp;omega
 ·intro v' w' h1 h2 _ h4
  obtain⟨a',c',rfl⟩:=aax h1
  exact h a' c' w' h1 h2 h4
end Go.Proofs.YtfhpgmlfgjfknaaGreatDoor
