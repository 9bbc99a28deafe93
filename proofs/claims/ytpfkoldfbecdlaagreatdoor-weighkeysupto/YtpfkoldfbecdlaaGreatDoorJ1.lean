/- Contracts and lemmas (nothing is claimed here). -/
import Derived.WalkKit
import Derived.WalkSpells
import Derived.WalkLawsBesides
import Derived.Laws.IdiomCopy
import Derived.Laws.BytesArg
import Derived.Lib.Strings
import Derived.Deep.OwnRows
import Derived.Lib.SplitLaws
import Derived.Test.YtpfkoldfbecdlaaGreatDoorChecked
import Derived.Deep.RegionHeld
import Derived.Defers
import Derived.Recover
import Derived.Shelf.Strings.Builder1
import Derived.Shelf.Strings.Builder2
import Derived.Shelf.Small.Utf8
import Derived.Shelf.Small.Bits
import Derived.Shelf.Small.Strs
import Derived.Shelf.Small.Wraps
import Derived.Shelf.Strconv.Itoa0
import Derived.Shelf.Strings.Search1
import Derived.Shelf.Strings.Search2
import Derived.Shelf.Strings.Search3
import Derived.Shelf.Strings.Cut
import Derived.Shelf.Strings.Count
import Derived.Shelf.LaysM
import Derived.Shelf.Strings.Shaped
import Derived.Shelf.Strings.Split
import Derived.Shelf.Strings.SplitShaped
import Derived.Shelf.Unicode.Latin
import Derived.Shelf.Unicode.DecodeSlow
import Derived.Shelf.Unicode.CaseLookup
import Derived.Shelf.Unicode.CaseConvert
import Derived.Shelf.Unicode.CaseTo
import Derived.Shelf.Unicode.CaseLaid
import Derived.Ground.SlgnProg
import Derived.Shelf.SlicesG.Turned
import Derived.Shelf.SlicesG.Clone
import Derived.Ground.SlsfProg
import Derived.Shelf.SlSortCmp.Insertion
import Derived.Test.YtpfkoldfbecdlaaGreatDoorProg
namespace Go.Vf
def scan:Bool→List UInt8→Nat×Bool
 | _,[]=>(0,false)
 | op,c::r=>if op=true∧c=1 then (1,true) else if op=true∧c≠255 then (0,false) else ((scan (c==0) r).1+1,(scan (c==0) r).2)
end Go.Vf
namespace Go.Vf
open Go.RowKit
variable {P:Program}
def bs (l:List UInt8):ByteArray:=⟨l.toArray⟩
theorem bs_data (l:List UInt8):(bs l).data.toList=l:=by simp[bs]
theorem bs_toList (l:List UInt8):(bs l).toList=l:=by rw[ByteArray.toList_eq,bs_data]
theorem data_inj {a b:ByteArray}(h:a.data.toList=b.data.toList):a=b:=by
 obtain⟨⟨x⟩⟩:=a;obtain⟨⟨y⟩⟩:=b;simp at h;rw[h]
structure BRow (w:World)(h:Nat)(l:List UInt8):Prop where
 cell: ∀j (hj:j<l.length),w.cell? ⟨h,j,none⟩=some (.int .u8 ((l[j]'hj).toNat:Int))
 free: ∀j,j<l.length→w.frozen? ⟨h,j,none⟩=false
def af8 (l:List UInt8):List Value:=l.map fun x=>Value.int .u8 (x.toNat:Int)
theorem run_string_row (w:World)(src dst e:TypeId)(hs:P.underlying src=some (.slice e))(he:P.underlying e=some (.int .u8))(hd:P.underlying dst=some .string)(h n cap:Nat)(l:List UInt8)(hn:n≤l.length)(hr:BRow w h l):
  (convert src dst (.slice (some ⟨h,0,none⟩) n cap)).run P w=.ok (.string (bs (l.take n))) w:=by
 have hc:=run_convert_bytes_arg (P:=P) w src e hs he h 0 n cap ((l.take n).map fun x=>(x.toNat:Int)) (by simp;omega) (fun i hi=>by
  rw[Nat.zero_add,hr.cell i (by omega)]
  simp[List.getD,hi,List.getElem?_eq_getElem (show i<l.length by omega)]) dst hd
 rw[hc]
 have e:strOfNums ((l.take n).map fun x=>(x.toNat:Int))=bs (l.take n):=data_inj (by rw[strOfNums_data,bs_data];simp[Function.comp_def])
 rw[e]
end Go.Vf
namespace Go.Vf
open Go.RowKit
variable {P:Program}
def BOwn (e:TypeId)(w:World)(base:Nat)(v:Value)(acc:List UInt8):Prop:=w.ownsRow base e 1 v acc.length (af8 acc)
theorem BOwn.nil (e:TypeId)(w:World)(base:Nat):BOwn e w base (.slice none 0 0) []:=World.ownsRow_nil _ _ _ _
theorem BOwn.alloc {e:TypeId}{w:World}{base:Nat}{v:Value}{acc:List UInt8}(h:BOwn e w base v acc)(o:Obj):BOwn e (w.alloc o) base v acc:=World.ownsRow.alloc h o
theorem BOwn.form {e:TypeId}{w:World}{base:Nat}{v:Value}{acc:List UInt8}(h:BOwn e w base v acc):
  (v=.slice none 0 0∧acc=[])∨ ∃g cap,v=.slice (some ⟨g,0,none⟩) acc.length cap∧base≤g∧acc.length≤cap∧cap≤maxLen∧BRow w g acc:=by
 obtain⟨h1,h2⟩:=h
 rcases h2 with ⟨rfl,hn⟩ | ⟨g,cap,cur,rfl,hb,hh,hc1,hc2,hc3,hc4⟩
 ·exact .inl ⟨rfl,List.eq_nil_of_length_eq_zero hn⟩
 ·refine .inr ⟨g,cap,rfl,hb,hc1,hc2,⟨fun j hj=> ?_,fun j hj=> ?_⟩⟩
  ·have hx:(af8 acc)[j]? =some (.int .u8 ((acc[j]'hj).toNat:Int)):=by simp[af8,hj]
   rw[←hc4,List.getElem?_take_of_lt (by omega)] at hx
   simp only[World.cell?,hh]
   simpa using hx
  ·simp[World.frozen?,hh]
theorem ag5 (w:World)(src dst e:TypeId)(hs:P.underlying src=some (.slice e))(he:P.underlying e=some (.int .u8))(hd:P.underlying dst=some .string)(base:Nat)(v:Value)(acc:List UInt8)(h:BOwn e w base v acc):
  (convert src dst v).run P w=.ok (.string (bs acc)) w:=by
 rcases h.form with ⟨rfl,rfl⟩ | ⟨g,cap,rfl,_,_,_,hr⟩
 ·rw[run_convert_bytes_nil (P:=P) w src e hs he 0 0 dst hd]
  rfl
 ·rw[run_string_row w src dst e hs he hd g acc.length cap acc (Nat.le_refl _) hr,List.take_length]
end Go.Vf
namespace Go.Vf
def aa7 (c:UInt8):List UInt8→List (List UInt8)
 | []=>[[]]
 | b::r=>if b=c then []::aa7 c r else match aa7 c r with
  | []=>[[b]]
  | h::t=>(b::h)::t
theorem cutL_ne (c:UInt8): ∀l,aa7 c l≠ []:=by
 intro l
 cases l with
 | nil=>simp[aa7]
 | cons b r=>
  unfold aa7
  split
  ·simp
  ·split<;>simp
theorem agy (c:UInt8): ∀l:List UInt8,(∀x∈l,x≠c)→aa7 c l=[l]:=by
 intro l
 induction l with
 | nil=>intro _;rfl
 | cons b r ih=>
  intro h
  unfold aa7
  rw[if_neg (h b (by simp)),ih (fun x hx=>h x (by simp[hx]))]
theorem aff (c:UInt8): ∀(a r:List UInt8),(∀x∈a,x≠c)→aa7 c (a++c::r)=a::aa7 c r:=by
 intro a
 induction a with
 | nil=>intro r _;simp[aa7]
 | cons b t ih=>
  intro r h
  rw[List.cons_append,aa7,if_neg (h b (by simp)),ih r (fun x hx=>h x (by simp[hx]))]
theorem index_none (c:UInt8): ∀l:List UInt8,Lib.index l [c]= -1→ ∀x∈l,x≠c:=by
 intro l
 induction l with
 | nil=>simp
 | cons b r ih=>
  intro h x hx e
  subst e
  by_cases hb:b=x
  ·subst hb
   rw[Lib.index] at h
   simp[List.isPrefixOf] at h
  ·have hp:([x]:List UInt8).isPrefixOf (b::r)=false:=by simp[List.isPrefixOf,Ne.symm hb]
   have hix:Lib.index (b::r) [x]=if Lib.index r [x]== -1 then -1 else Lib.index r [x]+1:=by rw[Lib.index,hp];simp
   rw[hix] at h
   have hge:=Lib.index_ge r [x]
   by_cases hm:Lib.index r [x]= -1
   ·exact ih hm x ((List.mem_cons.1 hx).resolve_left (fun e=>hb e.symm)) rfl
   ·rw[if_neg (fun e=>hm (beq_iff_eq.1 e))] at h;omega
theorem index_some (c:UInt8): ∀(l:List UInt8) (i:Nat),Lib.index l [c]=(i:Int)→i<l.length∧(∀x∈l.take i,x≠c)∧l=l.take i++c::l.drop (i+1):=by
 intro l
 induction l with
 | nil=>intro i h;simp[Lib.index] at h
 | cons b r ih=>
  intro i h
  by_cases hb:b=c
  ·subst hb
   have hix:Lib.index (b::r) [b]=((0:Nat):Int):=by rw[Lib.index];simp[List.isPrefixOf]
   rw[hix] at h
   obtain rfl:i=0:=by omega
   simp
  ·have hp:([c]:List UInt8).isPrefixOf (b::r)=false:=by simp[List.isPrefixOf,Ne.symm hb]
   have hix:Lib.index (b::r) [c]=if Lib.index r [c]== -1 then -1 else Lib.index r [c]+1:=by rw[Lib.index,hp];simp
   rw[hix] at h
   by_cases hm:Lib.index r [c]= -1
   ·rw[if_pos (beq_iff_eq.2 hm)] at h;omega
   ·rw[if_neg (fun e=>hm (beq_iff_eq.1 e))] at h
    obtain⟨j,rfl⟩: ∃j,i=j+1:=⟨i-1,by have:=Lib.index_ge r [c];omega⟩
    obtain⟨h1,h2,h3⟩:=ih j (by omega)
    refine⟨by simp;omega,?_,?_⟩
    ·intro x hx
     simp only[List.take_succ_cons,List.mem_cons] at hx
     rcases hx with rfl | hx
     ·exact hb
     ·exact h2 x hx
    ·simp only[List.take_succ_cons,List.drop_succ_cons,List.cons_append]
     rw[←h3]
theorem splitK_cut (c:UInt8): ∀(k:Nat) (l:List UInt8),Lib.count l [c]=k→Lib.splitK [c] 0 k l=aa7 c l:=by
 intro k
 induction k with
 | zero=>
  intro l hk
  by_cases hm:Lib.index l [c]= -1
  ·rw[agy c l (index_none c l hm)];rfl
  ·have hge:=Lib.index_ge l [c]
   obtain⟨i,hi⟩: ∃i:Nat,Lib.index l [c]=i:=⟨(Lib.index l [c]).toNat,by omega⟩
   rw[Lib.count_hit (by simp) hi] at hk
   omega
 | succ k ih=>
  intro l hk
  by_cases hm:Lib.index l [c]= -1
  ·rw[Lib.count_miss hm] at hk;omega
  ·have hge:=Lib.index_ge l [c]
   obtain⟨i,hi⟩: ∃i:Nat,Lib.index l [c]=i:=⟨(Lib.index l [c]).toNat,by omega⟩
   have hc:=Lib.count_hit (by simp) hi
   rw[hk] at hc
   obtain⟨h1,h2,h3⟩:=index_some c l i hi
   unfold Lib.splitK
   rw[if_neg (fun e=>hm (beq_iff_eq.1 e)),hi]
   simp only[Int.toNat_natCast,Nat.add_zero,List.length_cons,List.length_nil,Nat.zero_add]
   rw[ih _ (by simp only[List.length_cons,List.length_nil,Nat.zero_add] at hc;omega)]
   conv=>rhs;rw[h3]
   rw[aff c _ _ h2]
abbrev bsz (l:List UInt8):ByteArray:=⟨l.toArray⟩
theorem split_cut (c:UInt8)(s:ByteArray):Lib.splitB ⟨#[c]⟩ 0 (Lib.countB s ⟨#[c]⟩) s=(aa7 c s.data.toList).map bsz:=by
 have h:=Lib.splitB_data ⟨#[c]⟩ 0 (Lib.countB s ⟨#[c]⟩) s
 have h2:=splitK_cut c (Lib.countB s ⟨#[c]⟩) s.data.toList rfl
 rw[show (⟨#[c]⟩:ByteArray).data.toList=[c] from rfl,h2] at h
 rw[←h,List.map_map]
 have:(bsz ∘ fun x:ByteArray=>x.data.toList)=id:=by
  funext x
  cases x
  rfl
 rw[this,List.map_id]
theorem cutL_length (c:UInt8)(s:ByteArray):Lib.countB s ⟨#[c]⟩+1=(aa7 c s.data.toList).length:=by
 have h:=split_cut c s
 have h2:=Lib.splitB_all ⟨#[c]⟩ (Nat.le_refl _) 0 _ s rfl
 rw[h,List.length_map] at h2
 exact h2.symm
theorem abj (c:UInt8): ∀(l:List UInt8),∀x∈aa7 c l,x.length≤l.length:=by
 intro l
 induction l with
 | nil=>simp[aa7]
 | cons b r ih=>
  intro x hx
  unfold aa7 at hx
  split at hx
  ·rcases List.mem_cons.1 hx with rfl | hx
   ·simp
   ·have:=ih x hx;simp;omega
  ·split at hx
   ·simp at hx;subst hx;simp
   ·rename_i h t e
    rw[e] at ih
    rcases List.mem_cons.1 hx with rfl | hx
    ·have:=ih h (by simp);simp;omega
    ·have:=ih x (by simp[hx]);simp;omega
theorem abn (c:UInt8): ∀(l:List UInt8),(aa7 c l).length≤l.length+1:=by
 intro l
 induction l with
 | nil=>simp[aa7]
 | cons b r ih=>
  unfold aa7
  split
  ·simp;omega
  ·split
   ·simp
   ·rename_i h t e
    rw[e] at ih
    simp at ih⊢;omega
theorem cutL_no (c:UInt8): ∀(l:List UInt8),∀x∈aa7 c l,∀b∈x,b≠c:=by
 intro l
 induction l with
 | nil=>intro x hx b hb;simp[aa7] at hx;subst hx;simp at hb
 | cons a r ih=>
  intro x hx b hb
  unfold aa7 at hx
  split at hx
  ·rcases List.mem_cons.1 hx with rfl | hx
   ·simp at hb
   ·exact ih x hx b hb
  ·rename_i hac
   split at hx
   ·simp at hx;subst hx;simp at hb;subst hb;exact hac
   ·rename_i h t e
    rw[e] at ih
    rcases List.mem_cons.1 hx with rfl | hx
    ·rcases List.mem_cons.1 hb with rfl | hb
     ·exact hac
     ·exact ih h (by simp) b hb
    ·exact ih x (by simp[hx]) b hb
def adb (c:UInt8):Option Nat:=if 65≤c.toNat∧c.toNat≤70 then some (c.toNat-55) else if 48≤c.toNat∧c.toNat≤57 then some (c.toNat-48) else none
def decV (c:UInt8):Option Nat:=if 48≤c.toNat∧c.toNat≤57 then some (c.toNat-48) else none
def acs (v:UInt8→Option Nat)(b:Nat):List UInt8→Nat→Option Nat
 | [],n=>some n
 | c::r,n=>match v c with
  | none=>none
  | some d=>acs v b r (n*b+d)
def ab5 (n:Int):Bool:=decide (44032≤n)&&decide (n≤55203)
def mayB (n:Int):Bool:=decide (0≤n)&&decide (n≤1114111)&&(decide (n<55296)||decide (57343<n))&& !ab5 n
def abc (s:List UInt8):Option Int:=
 if s.length=4∨(4<s.length∧s.length≤6∧s.head?≠some 48) then
  match acs adb 16 s 0 with
  | none=>none
  | some n=>if mayB (n:Int) then some (n:Int) else none
 else none
def ach (s:List UInt8):Option Int:=
 if s=[48]∨(s≠ []∧s.head?≠some 48∧s.length≤3) then
  match acs decV 10 s 0 with
  | none=>none
  | some n=>if n≤254 then some (n:Int) else none
 else none
def abd:List (List UInt8)→Option (List Int)
 | []=>some []
 | s::r=>match abc s with
  | none=>none
  | some p=>match abd r with
   | none=>none
   | some l=>some (p::l)
def afa (s:List UInt8):Option (List Int):=if s=[] then some [] else abd (aa7 32 s)
structure Mk where
 line:Int
 point:Int
 cls:Int
 parts:List Int
deriving DecidableEq
def markC:List (List UInt8)→Option (Int×Int×List Int)
 | [a,b,c]=>match abc a with
  | none=>none
  | some p=>match ach b with
   | none=>none
   | some k=>match afa c with
    | none=>none
    | some l=>some (p,k,l)
 | _=>none
def ac4 (s:List UInt8):Option (Int×Int×List Int):=markC (aa7 59 s)
def aaz (s:List UInt8):Bool:=s.isEmpty||s.head? ==some 35
def aau:List (List UInt8)→Int→List Mk→Except (Int×Int) (List Mk)
 | [],_,acc=>.ok acc
 | s::r,n,acc=>
  if aaz s then aau r (n+1) acc else
  match ac4 s with
  | none=>.error (40,n+1)
  | some (p,k,l)=>
   if acc.any (fun m=>m.point==p) then .error (41,n+1)
   else if 4096≤acc.length then .error (2,n+1)
   else aau r (n+1) (acc++[⟨n+1,p,k,l⟩])
def aa4 (L:List Mk)(p:Int):Option Mk:=L.find? (fun m=>m.point==p)
def aad (L:List Mk)(p:Int):List Int:=((aa4 L p).map Mk.parts).getD []
def aaa (L:List Mk)(p:Int):Int:=((aa4 L p).map Mk.cls).getD 0
def adj (L:List Mk)(p:Int):Bool:=(aa4 L p).isSome
end Go.Vf
namespace Go.Proofs.YtpfkoldfbecdlaaGreatDoor
open Go.RowKit Go.Vf
abbrev lostV (why line:Int):Value:=.iface 100 (.agg #[.int .i64 why,.int .i64 line])
abbrev lostE (why line:Int):Ending:=.panicked [{v:=lostV why line,recovered:=false}]
theorem calls_lost {P:Program}{f:FuncId}{args:Array Value}{w:World}{F:Ending→World→Prop}{e0:Ending}{R:World→Prop}(v0:Value)(hc:Calls P f args w fun e w'=>e=e0∧R w')(hF: ∀w',R w'→F e0 w')(_fake:Hid False→F (.returned v0) w):Calls P f args w F:=
 hc.mono (by rintro e w' ⟨rfl,h⟩;exact hF w' h)
theorem calls_fake {P:Program}{f:FuncId}{args:Array Value}{w:World}{F:Ending→World→Prop}(v0:Value)(hX:Hid False)(_fake:F (.returned v0) w):Calls P f args w F:=hX.out.elim
theorem ad4 (p:Value)(h:Bool)(why:Int)(w:World)(hh:h=true):
  Calls Tryz.prog 142 #[p,.bool h,.int .i64 why] w fun e w'=>e=.returned (.tuple #[])∧w=w':=by
 subst hh
 go_enter Tryz.func142,Tryz.ntmps142
 go_wp2
 go_end0
 exact⟨rfl,rfl⟩
theorem adh (b:Nat)(h:Bool)(why line:Int)(w:World)(hh:h=false)(hl:w.cell? ⟨b,0,none⟩=some (.int .i64 line)):
  Calls Tryz.prog 142 #[.pointer (some ⟨b,0,none⟩),.bool h,.int .i64 why] w fun e w'=>e=lostE why line∧w=w':=by
 subst hh
 go_enter Tryz.func142,Tryz.ntmps142
 go_wp2
 exact⟨rfl,rfl,rfl⟩
def gotN (line:Int):Option Nat→Ending
 | some n=>.returned (.int .i64 (n:Int))
 | none=>lostE 40 line
theorem adg (b:Nat)(c:UInt8)(line:Int)(w:World)(hl:w.cell? ⟨b,0,none⟩=some (.int .i64 line)):
  Calls Tryz.prog 174 #[.pointer (some ⟨b,0,none⟩),.int .u8 (c.toNat:Int)] w fun e w'=>e=gotN line (decV c)∧w=w':=by
 have hc:=c.toNat_lt
 by_cases h:48≤c.toNat∧c.toNat≤57
 ·obtain⟨h1,h2⟩:=h
  have e1:decV c=some (c.toNat-48):=by simp[decV,h1,h2]
  rw[e1]
  go_enter Tryz.func174,Tryz.ntmps174
  go_wp2_with fail
  refine(ad4 _ _ _ _ (by simp;try omega)).mono ?_
  rintro e w1 ⟨rfl,rfl⟩
  go_wp2
  go_ret
  refine⟨?_,rfl⟩
  simp[gotN]
  omega
 ·have e1:decV c=none:=by simp[decV];omega
  rw[e1]
  go_enter Tryz.func174,Tryz.ntmps174
  go_wp2_with fail
  all_goals
   refine(adh b _ _ line _ (by simp;try omega) hl).mono ?_
   rintro e w1 ⟨rfl,rfl⟩
   go_wp2
   exact⟨rfl,rfl,rfl⟩
theorem readHex_any (b:Nat)(c:UInt8)(line:Int)(w:World)(hl:w.cell? ⟨b,0,none⟩=some (.int .i64 line)):
  Calls Tryz.prog 173 #[.pointer (some ⟨b,0,none⟩),.int .u8 (c.toNat:Int)] w fun e w'=>e=gotN line (adb c)∧w=w':=by
 have hc:=c.toNat_lt
 by_cases h:65≤c.toNat∧c.toNat≤70
 ·obtain⟨h1,h2⟩:=h
  have e1:adb c=some (c.toNat-55):=by simp[adb,h1,h2]
  rw[e1]
  go_enter Tryz.func173,Tryz.ntmps173
  go_wp2
  go_ret
  refine⟨?_,rfl⟩
  simp[gotN]
  omega
 ·have e1:adb c=decV c:=by
   unfold adb decV
   rw[if_neg h]
  rw[e1]
  by_cases h1:c.toNat<65
  ·go_enter Tryz.func173,Tryz.ntmps173
   go_wp2_with fail
   refine(adg b c line _ hl).mono ?_
   rintro e w1 ⟨rfl,rfl⟩
   cases hd:decV c with
   | none=>
    simp only[gotN]
    go_wp2
    exact⟨rfl,by rw[hd];rfl,rfl⟩
   | some d=>
    simp only[gotN]
    go_wp2
    go_ret
    exact⟨by rw[hd];rfl,rfl⟩
  ·have h2:70<c.toNat:=by omega
   go_enter Tryz.func173,Tryz.ntmps173
   go_wp2_with fail
   refine(adg b c line _ hl).mono ?_
   rintro e w1 ⟨rfl,rfl⟩
   cases hd:decV c with
   | none=>
    simp only[gotN]
    go_wp2
    exact⟨rfl,by rw[hd];rfl,rfl⟩
   | some d=>
    simp only[gotN]
    go_wp2
    go_ret
    exact⟨by rw[hd];rfl,rfl⟩
theorem adu (n:Int)(w:World):
  Calls Tryz.prog 154 #[.int .i64 n] w fun e w'=>e=.returned (.bool (ab5 n))∧w=w':=by
 by_cases h1:44032≤n
 ·by_cases h2:n≤55203
  ·go_enter Tryz.func154,Tryz.ntmps154
   go_wp2
   go_ret
   exact⟨by simp[ab5,h1,h2],rfl⟩
  ·go_enter Tryz.func154,Tryz.ntmps154
   go_wp2
   go_ret
   exact⟨by simp[ab5,h2],rfl⟩
 ·go_enter Tryz.func154,Tryz.ntmps154
  go_wp2
  go_ret
  exact⟨by simp[ab5];omega,rfl⟩
theorem mayStand_any (n:Int)(w:World):
  Calls Tryz.prog 108 #[.int .i64 n] w fun e w'=>e=.returned (.bool (mayB n))∧w=w':=by
 by_cases h1:0≤n
 ·by_cases h2:n≤1114111
  ·by_cases h3:n<55296
   ·go_enter Tryz.func108,Tryz.ntmps108
    go_wp2_with fail
    refine(adu n _).mono ?_
    rintro e w1 ⟨rfl,rfl⟩
    go_wp2
    go_ret
    exact⟨by simp[mayB,h1,h2,h3],rfl⟩
   ·by_cases h4:57343<n
    ·go_enter Tryz.func108,Tryz.ntmps108
     go_wp2_with fail
     refine(adu n _).mono ?_
     rintro e w1 ⟨rfl,rfl⟩
     go_wp2
     go_ret
     exact⟨by simp[mayB,h1,h2,h4],rfl⟩
    ·go_enter Tryz.func108,Tryz.ntmps108
     go_wp2
     go_ret
     exact⟨by simp[mayB];omega,rfl⟩
  ·go_enter Tryz.func108,Tryz.ntmps108
   go_wp2
   go_ret
   exact⟨by simp[mayB];omega,rfl⟩
 ·go_enter Tryz.func108,Tryz.ntmps108
  go_wp2
  go_ret
  exact⟨by simp[mayB];omega,rfl⟩
def gotI (line:Int):Option Int→Ending
 | some n=>.returned (.int .i64 n)
 | none=>lostE 40 line
theorem drop_at (s:ByteArray)(k:Nat)(hk:k<s.size):s.data.toList.drop k=s[k]::s.data.toList.drop (k+1):=by
 rw[List.drop_eq_getElem_cons (by rw[←Lib.size_eq];exact hk)]
 rfl
theorem af0 (s:ByteArray)(k:Nat)(hk:s.size≤k):s.data.toList.drop k=[]:=List.drop_of_length_le (by rw[←Lib.size_eq];exact hk)
theorem aep (s:ByteArray)(h:0<s.size):s.data.toList.head? =some s[0]:=by
 have:=drop_at s 0 h
 rw[List.drop_zero] at this
 rw[this];rfl
def pointE (line:Int)(r:Option Nat):Ending:=gotI line (match r with
 | none=>none
 | some n=>if mayB (n:Int) then some (n:Int) else none)
theorem hexV_lt {c:UInt8}{d:Nat}(h:adb c=some d):d<16:=by
 unfold adb at h
 split at h
 ·simp at h;omega
 ·split at h
  ·simp at h;omega
  ·cases h
theorem decV_lt {c:UInt8}{d:Nat}(h:decV c=some d):d<10:=by
 unfold decV at h
 split at h
 ·simp at h;omega
 ·cases h
set_option maxHeartbeats 1000000 in
theorem readPoint_any (b:Nat)(s:ByteArray)(line:Int)(w:World)(hs:s.size≤17179869184)(hl:w.cell? ⟨b,0,none⟩=some (.int .i64 line)):
  Calls Tryz.prog 143 #[.pointer (some ⟨b,0,none⟩),.string s] w fun e w'=>e=gotI line (abc s.data.toList)∧w=w':=by
 have hsl:s.data.toList.length=s.size:=(Lib.size_eq s).symm
 by_cases hlen:s.size=4∨(4<s.size∧s.size≤6∧s.data.toList.head?≠some 48)
 ·have e1:gotI line (abc s.data.toList)=pointE line (acs adb 16 s.data.toList 0):=by
   unfold abc pointE
   rw[if_pos (by rw[hsl];exact hlen)]
   try rfl
  rw[e1]
  have hs6:s.size≤6:=by omega
  generalize hR:acs adb 16 s.data.toList 0=R
  have HR:Hid (acs adb 16 s.data.toList 0=R):=hR
  clear hR e1
  rcases hlen with h4 | ⟨h4,_,h0⟩
  ·have h4':((s.size:Int)==4)=true:=by simp[h4]
   go_enter Tryz.func143,Tryz.ntmps143
   go_wp2_with fail
   refine(ad4 _ _ _ _ (by simp;try omega)).mono ?_
   rintro e w1 ⟨rfl,rfl⟩
   go_wp2_with fail
   go_loopw [5,29] (fun x i wr=> ∃k n:Nat,k≤s.size∧i=.int .i64 k∧x=.int .i64 n∧n<16^k∧Hid (acs adb 16 (s.data.toList.drop k) n=R)∧w=wr) (fun _ i _=>s.size-(intOf i).toNat)
   case atStart=>exact⟨0,0,by omega,rfl,rfl,by omega,by simpa using HR,rfl⟩
   case round=>
    obtain⟨k,n,hk,rfl,rfl,hn,HK,rfl⟩:=hrel
    have hp6:(16:Nat)^k≤16^6:=Nat.pow_le_pow_right (by omega) (by omega)
    by_cases hlt:k<s.size
    ·have hd:=drop_at s k hlt
     have hb8:=s[k].toNat_lt
     go_wp2_with fail
     refine(readHex_any b s[k] line _ hl).mono ?_
     rintro e w2 ⟨rfl,rfl⟩
     cases hv:adb s[k] with
     | none=>
      have hRn:R=none:=by rw[←HK.out,hd,acs,hv]
      simp only[gotN]
      go_wp2
      exact⟨rfl,by rw[hRn];rfl,rfl⟩
     | some d=>
      have hd16:=hexV_lt hv
      have HK2:Hid (acs adb 16 (s.data.toList.drop (k+1)) (n*16+d)=R):=by
       show _=_
       rw[←HK.out,hd,acs,hv]
      simp only[gotN]
      have hn2:n*16+d<16^(k+1):=by rw[Nat.pow_succ];omega
      clear HK hd hv
      go_wp2
      go_roundw
      case rel=>exact⟨k+1,n*16+d,by omega,by simp,by simp;try omega,hn2,HK2,by trivial⟩
      case measure=>simp only[intOf];omega
    ·have hRs:R=some n:=by rw[←HK.out,af0 s k (by omega)];rfl
     clear HK
     go_wp2_with fail
     refine(mayStand_any n _).mono ?_
     rintro e w2 ⟨rfl,rfl⟩
     cases hm:mayB (n:Int) with
     | true=>
      go_wp2_with fail
      refine(ad4 _ _ _ _ rfl).mono ?_
      rintro e w2 ⟨rfl,rfl⟩
      go_wp2
      go_ret
      exact⟨by rw[hRs];simp[pointE,hm,gotI],rfl⟩
     | false=>
      go_wp2_with fail
      refine(adh b _ _ line _ rfl hl).mono ?_
      rintro e w2 ⟨rfl,rfl⟩
      go_wp2
      exact⟨rfl,by rw[hRs];simp[pointE,hm,gotI],rfl⟩
  ·have hne': ¬(s[0].toNat:Int)=48:=by
    rw[aep s (by omega)] at h0
    simp only[ne_eq,Option.some.injEq] at h0
    intro e
    exact h0 (UInt8.toNat_inj.1 (by
     have:s[0].toNat=48:=by omega
     simpa using this))
   have hne:((s[0].toNat:Int)==48)=false:=by simpa using hne'
   have h4':((s.size:Int)==4)=false:=by simp;omega
   clear h0
   go_enter Tryz.func143,Tryz.ntmps143
   go_wp2_with fail
   refine(ad4 _ _ _ _ (by simp;try first | omega | exact hne')).mono ?_
   rintro e w1 ⟨rfl,rfl⟩
   go_wp2_with fail
   go_loopw [5,29] (fun x i wr=> ∃k n:Nat,k≤s.size∧i=.int .i64 k∧x=.int .i64 n∧n<16^k∧Hid (acs adb 16 (s.data.toList.drop k) n=R)∧w=wr) (fun _ i _=>s.size-(intOf i).toNat)
   case atStart=>exact⟨0,0,by omega,rfl,rfl,by omega,by simpa using HR,rfl⟩
   case round=>
    obtain⟨k,n,hk,rfl,rfl,hn,HK,rfl⟩:=hrel
    have hp6:(16:Nat)^k≤16^6:=Nat.pow_le_pow_right (by omega) (by omega)
    by_cases hlt:k<s.size
    ·have hd:=drop_at s k hlt
     have hb8:=s[k].toNat_lt
     go_wp2_with fail
     refine(readHex_any b s[k] line _ hl).mono ?_
     rintro e w2 ⟨rfl,rfl⟩
     cases hv:adb s[k] with
     | none=>
      have hRn:R=none:=by rw[←HK.out,hd,acs,hv]
      simp only[gotN]
      go_wp2
      exact⟨rfl,by rw[hRn];rfl,rfl⟩
     | some d=>
      have hd16:=hexV_lt hv
      have HK2:Hid (acs adb 16 (s.data.toList.drop (k+1)) (n*16+d)=R):=by
       show _=_
       rw[←HK.out,hd,acs,hv]
      simp only[gotN]
      have hn2:n*16+d<16^(k+1):=by rw[Nat.pow_succ];omega
      clear HK hd hv
      go_wp2
      go_roundw
      case rel=>exact⟨k+1,n*16+d,by omega,by simp,by simp;try omega,hn2,HK2,by trivial⟩
      case measure=>simp only[intOf];omega
    ·have hRs:R=some n:=by rw[←HK.out,af0 s k (by omega)];rfl
     clear HK
     go_wp2_with fail
     refine(mayStand_any n _).mono ?_
     rintro e w2 ⟨rfl,rfl⟩
     cases hm:mayB (n:Int) with
     | true=>
      go_wp2_with fail
      refine(ad4 _ _ _ _ rfl).mono ?_
      rintro e w2 ⟨rfl,rfl⟩
      go_wp2
      go_ret
      exact⟨by rw[hRs];simp[pointE,hm,gotI],rfl⟩
     | false=>
      go_wp2_with fail
      refine(adh b _ _ line _ rfl hl).mono ?_
      rintro e w2 ⟨rfl,rfl⟩
      go_wp2
      exact⟨rfl,by rw[hRs];simp[pointE,hm,gotI],rfl⟩
 ·have e1:abc s.data.toList=none:=by
   unfold abc
   rw[if_neg (by rw[hsl];exact hlen)]
  rw[e1]
  have h4':((s.size:Int)==4)=false:=by simp;omega
  by_cases h4:s.size<4
  ·go_enter Tryz.func143,Tryz.ntmps143
   go_wp2_with fail
   refine(adh b _ _ line _ (by simp;try omega) hl).mono ?_
   rintro e w1 ⟨rfl,rfl⟩
   go_wp2
   exact⟨rfl,rfl,rfl⟩
  ·by_cases h6:6<s.size
   ·go_enter Tryz.func143,Tryz.ntmps143
    go_wp2_with fail
    refine(adh b _ _ line _ (by simp;try omega) hl).mono ?_
    rintro e w1 ⟨rfl,rfl⟩
    go_wp2
    exact⟨rfl,rfl,rfl⟩
   ·have h5:4<s.size:=by omega
    have hs6:s.size≤6:=by omega
    have h0:s.data.toList.head? =some 48:=by
     by_cases hh:s.data.toList.head? =some 48
     ·exact hh
     ·exact absurd (Or.inr ⟨h5,hs6,hh⟩) hlen
    have he':(s[0].toNat:Int)=48:=by
     rw[aep s (by omega)] at h0
     simp only[Option.some.injEq] at h0
     rw[h0];rfl
    have he:((s[0].toNat:Int)==48)=true:=by simpa using he'
    clear h0 hlen
    go_enter Tryz.func143,Tryz.ntmps143
    go_wp2_with fail
    refine(adh b _ _ line _ (by simp;try first | omega | exact he') hl).mono ?_
    rintro e w1 ⟨rfl,rfl⟩
    go_wp2
    exact⟨rfl,rfl,rfl⟩
end Go.Proofs.YtpfkoldfbecdlaaGreatDoor
namespace Go.Proofs
open Go.Shelf
def Tryz.lays137_ren:Go.Shelf.Ren:=⟨fun | 137=>243 | 217=>217 | 266=>241 | n=>n,fun | 9=>9 | 5=>5 | 3=>3 | n=>n,fun | n=>n⟩
theorem Tryz.lays137:Go.Proofs.Lays.n137 Tryz.prog Tryz.lays137_ren:= {
 mixed:=by kernel_rfl
 f137:=Tryz.func243.trans (congrArg some (by kernel_rfl))
 f217:=Tryz.func217.trans (congrArg some (by kernel_rfl))
 f266:=Tryz.func241.trans (congrArg some (by kernel_rfl))
 t3:=Tryz.underlying3
 a3:=Tryz.isAgg3
 z3:=Tryz.sizeOf3
 v3:=Tryz.zeroValue3
 t5:=Tryz.underlying5
 a5:=Tryz.isAgg5
 z5:=Tryz.sizeOf5
 v5:=Tryz.zeroValue5
 t9:=Tryz.underlying9
 a9:=Tryz.isAgg9
 z9:=Tryz.sizeOf9
 v9:=Tryz.zeroValue9}
open Go.RowKit in
theorem Tryz.strings_IndexByte (s:ByteArray)(c:Int)(w:World):
  Calls Tryz.prog 243 #[.string s,.int .u8 c] w fun e w'=>e=.returned (.int .i64 (Lib.indexByte s.data.toList c.toNat.toUInt8))∧w'=w:=Any.strings_IndexByte Tryz.lays137 s c w
open Go.RowKit in
def Tryz.lays145_ren:Go.Shelf.Ren:=⟨fun | 145=>151 | 220=>180 | 219=>179 | 217=>217 | 225=>218 | 224=>219 | 267=>220 | 266=>241 | 314=>242 | n=>n,fun | 9=>9 | 4=>4 | 59=>225 | 3=>3 | 5=>5 | 46=>163 | 146=>302 | 51=>261 | n=>n,fun | 1=>2 | n=>n⟩
theorem Tryz.lays145:Go.Proofs.Lays.n145 Tryz.prog Tryz.lays145_ren:= {
 mixed:=by kernel_rfl
 f145:=Tryz.func151.trans (congrArg some (by kernel_rfl))
 f217:=Tryz.func217.trans (congrArg some (by kernel_rfl))
 f219:=Tryz.func179.trans (congrArg some (by kernel_rfl))
 f220:=Tryz.func180.trans (congrArg some (by kernel_rfl))
 f224:=Tryz.func219.trans (congrArg some (by kernel_rfl))
 f225:=Tryz.func218.trans (congrArg some (by kernel_rfl))
 f266:=Tryz.func241.trans (congrArg some (by kernel_rfl))
 f267:=Tryz.func220.trans (congrArg some (by kernel_rfl))
 f314:=Tryz.func242.trans (congrArg some (by kernel_rfl))
 t3:=Tryz.underlying3
 a3:=Tryz.isAgg3
 z3:=Tryz.sizeOf3
 v3:=Tryz.zeroValue3
 t4:=Tryz.underlying4
 a4:=Tryz.isAgg4
 z4:=Tryz.sizeOf4
 v4:=Tryz.zeroValue4
 t5:=Tryz.underlying5
 a5:=Tryz.isAgg5
 z5:=Tryz.sizeOf5
 v5:=Tryz.zeroValue5
 t9:=Tryz.underlying9
 a9:=Tryz.isAgg9
 z9:=Tryz.sizeOf9
 v9:=Tryz.zeroValue9
 t46:=Tryz.underlying163
 a46:=Tryz.isAgg163
 z46:=Tryz.sizeOf163
 v46:=Tryz.zeroValue163
 t51:=Tryz.underlying261
 a51:=Tryz.isAgg261
 z51:=Tryz.sizeOf261
 v51:=Tryz.zeroValue261
 t59:=Tryz.underlying225
 a59:=Tryz.isAgg225
 z59:=Tryz.sizeOf225
 v59:=Tryz.zeroValue225
 t146:=Tryz.underlying302
 a146:=Tryz.isAgg302
 z146:=Tryz.sizeOf302
 v146:=Tryz.zeroValue302
 g1:=by kernel_rfl}
open Go.RowKit Go.Lib in
theorem Tryz.strings_Cut (s sep:ByteArray)(m:Int)(w:World)(hs:s.size<4294967281)(hm:w.cell? ⟨2,0,none⟩=some (.int .i64 m)):
  Calls Tryz.prog 151 #[.string s,.string sep] w fun e w'=>e=.returned (.tuple #[.string ⟨(Lib.cut s.data.toList sep.data.toList).1.toArray⟩,.string ⟨(Lib.cut s.data.toList sep.data.toList).2.1.toArray⟩,.bool (Lib.cut s.data.toList sep.data.toList).2.2])∧ ∃n,w'=w.drewN n:=Any.strings_Cut Tryz.lays145 s sep m w hs hm
def Tryz.lays146_ren:Go.Shelf.Ren:=⟨fun | 146=>45 | 221=>97 | 268=>148 | 138=>149 | 143=>150 | 195=>176 | 197=>177 | 218=>178 | 219=>179 | 260=>216 | 217=>217 | 225=>218 | 224=>219 | 267=>220 | 266=>241 | 314=>242 | n=>n,fun | 9=>9 | 31=>115 | 3=>3 | 4=>4 | 0=>0 | 105=>248 | 21=>21 | 5=>5 | 46=>163 | 119=>298 | 139=>301 | 138=>300 | 146=>302 | 51=>261 | n=>n,fun | 1=>2 | 3=>3 | 4=>4 | n=>n⟩
theorem Tryz.lays146:Go.Proofs.Lays.n146 Tryz.prog Tryz.lays146_ren:= {
 mixed:=by kernel_rfl
 f138:=Tryz.func149.trans (congrArg some (by kernel_rfl))
 f143:=Tryz.func150.trans (congrArg some (by kernel_rfl))
 f146:=Tryz.func45.trans (congrArg some (by kernel_rfl))
 f195:=Tryz.func176.trans (congrArg some (by kernel_rfl))
 f197:=Tryz.func177.trans (congrArg some (by kernel_rfl))
 f217:=Tryz.func217.trans (congrArg some (by kernel_rfl))
 f218:=Tryz.func178.trans (congrArg some (by kernel_rfl))
 f219:=Tryz.func179.trans (congrArg some (by kernel_rfl))
 f221:=Tryz.func97.trans (congrArg some (by kernel_rfl))
 f224:=Tryz.func219.trans (congrArg some (by kernel_rfl))
 f225:=Tryz.func218.trans (congrArg some (by kernel_rfl))
 f260:=Tryz.func216.trans (congrArg some (by kernel_rfl))
 f266:=Tryz.func241.trans (congrArg some (by kernel_rfl))
 f267:=Tryz.func220.trans (congrArg some (by kernel_rfl))
 f268:=Tryz.func148.trans (congrArg some (by kernel_rfl))
 f314:=Tryz.func242.trans (congrArg some (by kernel_rfl))
 t0:=Tryz.underlying0
 a0:=Tryz.isAgg0
 z0:=Tryz.sizeOf0
 v0:=Tryz.zeroValue0
 t3:=Tryz.underlying3
 a3:=Tryz.isAgg3
 z3:=Tryz.sizeOf3
 v3:=Tryz.zeroValue3
 t4:=Tryz.underlying4
 a4:=Tryz.isAgg4
 z4:=Tryz.sizeOf4
 v4:=Tryz.zeroValue4
 t5:=Tryz.underlying5
 a5:=Tryz.isAgg5
 z5:=Tryz.sizeOf5
 v5:=Tryz.zeroValue5
 t9:=Tryz.underlying9
 a9:=Tryz.isAgg9
 z9:=Tryz.sizeOf9
 v9:=Tryz.zeroValue9
 t21:=Tryz.underlying21
 a21:=Tryz.isAgg21
 z21:=Tryz.sizeOf21
 v21:=Tryz.zeroValue21
 t31:=Tryz.underlying115
 a31:=Tryz.isAgg115
 z31:=Tryz.sizeOf115
 v31:=Tryz.zeroValue115
 t46:=Tryz.underlying163
 a46:=Tryz.isAgg163
 z46:=Tryz.sizeOf163
 v46:=Tryz.zeroValue163
 t51:=Tryz.underlying261
 a51:=Tryz.isAgg261
 z51:=Tryz.sizeOf261
 v51:=Tryz.zeroValue261
 t105:=Tryz.underlying248
 a105:=Tryz.isAgg248
 z105:=Tryz.sizeOf248
 v105:=Tryz.zeroValue248
 t119:=Tryz.underlying298
 a119:=Tryz.isAgg298
 z119:=Tryz.sizeOf298
 t138:=Tryz.underlying300
 a138:=Tryz.isAgg300
 z138:=Tryz.sizeOf300
 v138:=Tryz.zeroValue300
 t139:=Tryz.underlying301
 a139:=Tryz.isAgg301
 z139:=Tryz.sizeOf301
 v139:=Tryz.zeroValue301
 t146:=Tryz.underlying302
 a146:=Tryz.isAgg302
 z146:=Tryz.sizeOf302
 v146:=Tryz.zeroValue302
 g1:=by kernel_rfl
 g3:=by kernel_rfl
 g4:=by kernel_rfl}
open Go.RowKit Go.Lib in
theorem Tryz.strings_Split (s sep:ByteArray)(m:Int)(w:World)(hs:s.size<4294967281)(hm:w.cell? ⟨2,0,none⟩=some (.int .i64 m))(h1:1≤sep.size):
  Calls Tryz.prog 45 #[.string s,.string sep] w fun e w'=>
   e=.returned (.slice (some ⟨w.heap.size,0,none⟩) (Lib.countB s sep+1) (Lib.countB s sep+1))∧w'=w.alloc (.cells ((Lib.splitB sep 0 (Lib.countB s sep) s).map Value.string).toArray 9):=Any.strings_Split Tryz.lays146 (by kernel_rfl) s sep m w hs hm h1
def Tryz.laysSlN29_f120_ren:Go.Shelf.Ren:=⟨fun | 29=>120 | n=>n,fun | 22=>90 | 23=>3 | 3=>3 | 0=>0 | 4=>4 | n=>n,fun | n=>n⟩
theorem Tryz.laysSlN29_f120:Go.Proofs.SlLaysN.n29 Tryz.prog Tryz.laysSlN29_f120_ren:= {
 mixed:=by kernel_rfl
 f29:=⟨Tryz.f120.name,by decide,Tryz.func120.trans (congrArg some (by kernel_rfl))⟩
 t0:=Tryz.underlying0
 a0:=Tryz.isAgg0
 z0:=Tryz.sizeOf0
 v0:=Tryz.zeroValue0
 t3:=Tryz.underlying3
 a3:=Tryz.isAgg3
 z3:=Tryz.sizeOf3
 v3:=Tryz.zeroValue3
 t4:=Tryz.underlying4
 a4:=Tryz.isAgg4
 z4:=Tryz.sizeOf4
 v4:=Tryz.zeroValue4
 t22:=Tryz.underlying90
 a22:=Tryz.isAgg90
 z22:=Tryz.sizeOf90
 v22:=Tryz.zeroValue90
 t23:=Tryz.underlying3
 a23:=Tryz.isAgg3
 z23:=Tryz.sizeOf3
 v23:=Tryz.zeroValue3}
open Go.Lib in
theorem Tryz.slices_Index_int (b off n c:Nat)(zs:List Int)(x:Int)(w:World)(hz:n≤zs.length)(hbig:n≤9223372036854775807)(hc: ∀j,j<zs.length→w.cell? ⟨b,off+j,none⟩=some (.int .i64 (zs.getD j 0))):
  Calls Tryz.prog 120 #[.slice (some ⟨b,off,none⟩) n c,.int .i64 x] w fun e w'=>e=.returned (.int .i64 (Lib.idxOf (zs.take n) x))∧w'=w:=AnyG.slices_Index_int Tryz.laysSlN29_f120 b off n c zs x w hz hbig hc
open Go.Lib in
def Tryz.laysSlN31_f215_ren:Go.Shelf.Ren:=⟨fun | 31=>215 | 29=>120 | n=>n,fun | 22=>90 | 23=>3 | 4=>4 | 3=>3 | 0=>0 | n=>n,fun | n=>n⟩
theorem Tryz.laysSlN31_f215:Go.Proofs.SlLaysN.n31 Tryz.prog Tryz.laysSlN31_f215_ren:= {
 mixed:=by kernel_rfl
 f29:=⟨Tryz.f120.name,by decide,Tryz.func120.trans (congrArg some (by kernel_rfl))⟩
 f31:=⟨Tryz.f215.name,by decide,Tryz.func215.trans (congrArg some (by kernel_rfl))⟩
 t0:=Tryz.underlying0
 a0:=Tryz.isAgg0
 z0:=Tryz.sizeOf0
 v0:=Tryz.zeroValue0
 t3:=Tryz.underlying3
 a3:=Tryz.isAgg3
 z3:=Tryz.sizeOf3
 v3:=Tryz.zeroValue3
 t4:=Tryz.underlying4
 a4:=Tryz.isAgg4
 z4:=Tryz.sizeOf4
 v4:=Tryz.zeroValue4
 t22:=Tryz.underlying90
 a22:=Tryz.isAgg90
 z22:=Tryz.sizeOf90
 v22:=Tryz.zeroValue90
 t23:=Tryz.underlying3
 a23:=Tryz.isAgg3
 z23:=Tryz.sizeOf3
 v23:=Tryz.zeroValue3}
open Go.Lib in
theorem Tryz.slices_Contains_int (b off n c:Nat)(zs:List Int)(x:Int)(w:World)(hz:n≤zs.length)(hbig:n≤9223372036854775807)(hc: ∀j,j<zs.length→w.cell? ⟨b,off+j,none⟩=some (.int .i64 (zs.getD j 0))):
  Calls Tryz.prog 215 #[.slice (some ⟨b,off,none⟩) n c,.int .i64 x] w fun e w'=>e=.returned (.bool ((zs.take n).contains x))∧w'=w:=AnyG.slices_Contains_int Tryz.laysSlN31_f215 b off n c zs x w hz hbig hc
open Go.Lib in
theorem Tryz.slices_Contains_int_empty (a:Option Addr)(c:Nat)(x:Int)(w:World):
  Calls Tryz.prog 215 #[.slice a 0 c,.int .i64 x] w fun e w'=>e=.returned (.bool false)∧w'=w:=AnyG.slices_Contains_int_empty Tryz.laysSlN31_f215 a c x w
def Tryz.laysSlN41_f60_ren:Go.Shelf.Ren:=⟨fun | 41=>60 | n=>n,fun | 22=>90 | 23=>3 | 4=>4 | n=>n,fun | n=>n⟩
theorem Tryz.laysSlN41_f60:Go.Proofs.SlLaysN.n41 Tryz.prog Tryz.laysSlN41_f60_ren:= {
 mixed:=by kernel_rfl
 f41:=⟨Tryz.f60.name,by decide,Tryz.func60.trans (congrArg some (by kernel_rfl))⟩
 t4:=Tryz.underlying4
 a4:=Tryz.isAgg4
 z4:=Tryz.sizeOf4
 v4:=Tryz.zeroValue4
 t22:=Tryz.underlying90
 a22:=Tryz.isAgg90
 z22:=Tryz.sizeOf90
 v22:=Tryz.zeroValue90
 t23:=Tryz.underlying3
 a23:=Tryz.isAgg3
 z23:=Tryz.sizeOf3
 v23:=Tryz.zeroValue3
 i23:=by kernel_rfl}
open Go.RowKit Go.Lib in
theorem Tryz.slices_Clone_int (b off n c:Nat)(zs:List Int)(w:World)(hz:n≤zs.length)(hbig:n*8≤140737488355328)(hc: ∀j,j<zs.length→w.cell? ⟨b,off+j,none⟩=some (.int .i64 (zs.getD j 0))):
  Calls Tryz.prog 60 #[.slice (some ⟨b,off,none⟩) n c] w fun e w'=> ∃v',e=.returned v'∧w'.ownsRow w.heap.size 3 1 v' n ((zs.take n).map (Value.int .i64))∧v'≠ .slice none 0 0∧Below w.heap.size w w':=AnyG.slices_Clone_int Tryz.laysSlN41_f60 b off n c zs w hz hbig hc
open Go.RowKit Go.Lib in
theorem Tryz.slices_Clone_int_nil (n c:Nat)(w:World):
  Calls Tryz.prog 60 #[.slice none n c] w fun e w'=>e=.returned (.slice none 0 0)∧w'=w:=AnyG.slices_Clone_int_nil Tryz.laysSlN41_f60 n c w
open Go.RowKit Go.Lib in
theorem Tryz.slices_Clone_int_zero (a:Addr)(c:Nat)(w:World):
  Calls Tryz.prog 60 #[.slice (some a) 0 c] w fun e w'=> ∃v',e=.returned v'∧w'.ownsRow w.heap.size 3 1 v' 0 []∧v'≠ .slice none 0 0∧Below w.heap.size w w':=AnyG.slices_Clone_int_zero Tryz.laysSlN41_f60 a c w
end Go.Proofs
