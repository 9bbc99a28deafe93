/- Contracts and lemmas (nothing is claimed here). -/
import Derived.WalkKit
import Derived.WalkSpells
import Derived.WalkLawsBesides
import Derived.Laws.IdiomCopy
import Derived.Laws.BytesArg
import Derived.Lib.Strings
import Derived.Deep.OwnRows
import Derived.Lib.SplitLaws
import Derived.Test.YtfhpgmlfgjfknaaGreatDoorChecked
import Derived.Deep.RegionHeld
import Derived.Defers
import Derived.Recover
namespace Go.Vf
def wh (G:Int→List Int):Nat→Int→List Int
 | 0,p=>[p]
 | k+1,p=>if G p=[] then [p] else (G p).flatMap (wh G k)
theorem ah2 {G:Int→List Int}{p:Int}(h:G p=[])(k:Nat):wh G k p=[p]:=by
 cases k<;>simp[wh,h]
theorem a2c {G:Int→List Int}: ∀(k:Nat) (p:Int),wh G k p≠ []:=by
 intro k
 induction k with
 | zero=>intro p;simp[wh]
 | succ k ih=>
  intro p
  unfold wh
  split
  ·simp
  ·rename_i h
   intro e
   rw[List.flatMap_eq_nil_iff] at e
   cases hG:G p with
   | nil=>exact h hG
   | cons a r=>exact ih a (e a (by rw[hG];simp))
def a5n (G:Int→List Int)(ord:List Int):Prop:= ∀pre x post,ord=pre++x::post→ ∀y∈G x,y∈pre
theorem adv {α β:Type}{f g:α→List β}{l:List α}(h: ∀x∈l,f x=g x):l.flatMap f=l.flatMap g:=by
 induction l with
 | nil=>rfl
 | cons a r ih=>simp only[List.flatMap_cons];rw[h a (by simp),ih (fun x hx=>h x (by simp[hx]))]
section
variable {G:Int→List Int}{ord:List Int}
theorem ap1 (ht:a5n G ord): ∀(n:Nat) (pre:List Int) (x:Int) (post:List Int),pre.length≤n→ord=pre++x::post→ ∀k,pre.length+1≤k→wh G k x=wh G (pre.length+1) x:=by
 intro n
 induction n with
 | zero=>
  intro pre x post hn hs k hk
  have hp:pre=[]:=List.length_eq_zero_iff.1 (by omega)
  have hG:G x=[]:=by
   cases hG:G x with
   | nil=>rfl
   | cons a r=>have:=ht pre x post hs a (by rw[hG];simp);rw[hp] at this;simp at this
  rw[ah2 hG,ah2 hG]
 | succ n ih=>
  intro pre x post hn hs k hk
  obtain⟨k',rfl⟩: ∃k',k=k'+1:=⟨k-1,by omega⟩
  unfold wh
  split
  ·rfl
  ·refine adv fun y hy=> ?_
   have hyp:=ht pre x post hs y hy
   obtain⟨p1,p2,e⟩:=List.append_of_mem hyp
   have hl:p1.length+1≤pre.length:=by rw[e];simp
   have hs2:ord=p1++y::(p2++x::post):=by rw[hs,e];simp
   rw[ih p1 y _ (by omega) hs2 k' (by omega),ih p1 y _ (by omega) hs2 pre.length (by omega)]
theorem a7f (ht:a5n G ord){N:Nat}(hN:ord.length+1≤N){x:Int}(hx:x∈ord)(hne:G x≠ []):wh G N x=(G x).flatMap (wh G N):=by
 obtain⟨pre,post,hs⟩:=List.append_of_mem hx
 have hlen:pre.length+1≤ord.length:=by rw[hs];simp
 obtain⟨N',rfl⟩: ∃N',N=N'+1:=⟨N-1,by omega⟩
 rw[wh,if_neg hne]
 refine adv fun y hy=> ?_
 obtain⟨p1,p2,e⟩:=List.append_of_mem (ht pre x post hs y hy)
 have hl:p1.length+1≤pre.length:=by rw[e];simp
 have hs2:ord=p1++y::(p2++x::post):=by rw[hs,e];simp
 rw[ap1 ht _ p1 y _ (Nat.le_refl _) hs2 N' (by omega),ap1 ht _ p1 y _ (Nat.le_refl _) hs2 (N'+1) (by omega)]
theorem a5r (ht:a5n G ord){N:Nat}(hN:ord.length+1≤N): ∀(n:Nat) (pre:List Int) (x:Int) (post:List Int),pre.length≤n→ord=pre++x::post→ ∀z∈wh G N x,G z=[]:=by
 intro n
 induction n with
 | zero=>
  intro pre x post hn hs z hz
  have hp:pre=[]:=List.length_eq_zero_iff.1 (by omega)
  have hG:G x=[]:=by
   cases hG:G x with
   | nil=>rfl
   | cons a r=>have:=ht pre x post hs a (by rw[hG];simp);rw[hp] at this;simp at this
  rw[ah2 hG] at hz
  simp at hz;subst hz;exact hG
 | succ n ih=>
  intro pre x post hn hs z hz
  by_cases hG:G x=[]
  ·rw[ah2 hG] at hz
   simp at hz;subst hz;exact hG
  ·rw[a7f ht hN (by rw[hs];simp) hG] at hz
   obtain⟨y,hy,hz⟩:=List.mem_flatMap.1 hz
   obtain⟨p1,p2,e⟩:=List.append_of_mem (ht pre x post hs y hy)
   have hl:p1.length+1≤pre.length:=by rw[e];simp
   exact ih p1 y (p2++x::post) (by omega) (by rw[hs,e];simp) z hz
def a7a (E:Int→List Int)(x:Int)(v:List Int):Int→List Int:=fun y=>if y=x then v else E y
def aak (E:Int→List Int)(p:Int):List Int:=if E p=[] then [p] else E p
def agm (E:Int→List Int):List Int→List Int→List Int
 | acc,[]=>acc
 | acc,q::r=>if 18<(acc++aak E q).length then (acc++aak E q).take 19 else agm E (acc++aak E q) r
def ad9 (has:Int→Bool)(G:Int→List Int):List Int→(Int→List Int)→(Int→List Int)
 | [],E=>E
 | p::r,E=>ad9 has G r (if has p then a7a E p (agm E [] (G p)) else E)
theorem avo (E:Int→List Int): ∀(l acc:List Int),acc.length≤18→agm E acc l=(acc++l.flatMap (aak E)).take 19:=by
 intro l
 induction l with
 | nil=>intro acc h;simp[agm];rw[List.take_of_length_le (by omega)]
 | cons q r ih=>
  intro acc h
  unfold agm
  split
  ·rename_i h2
   rw[List.flatMap_cons,←List.append_assoc,List.take_append_of_le_length (l₁:=acc++aak E q) (by omega)]
  ·rename_i h2
   rw[ih _ (by omega)]
   simp
theorem ajm {f:Int→List Int}(n:Nat): ∀(l:List Int) (acc:List Int),(acc++l.flatMap (fun x=>(f x).take n)).take n=(acc++l.flatMap f).take n:=by
 intro l
 induction l with
 | nil=>intro acc;simp
 | cons a r ih=>
  intro acc
  simp only[List.flatMap_cons,←List.append_assoc]
  rw[ih]
  by_cases h:(f a).length≤n
  ·rw[List.take_of_length_le h]
  ·have e1:((acc++(f a).take n)++r.flatMap f).take n=(acc++(f a).take n).take n:=List.take_append_of_le_length (by simp;omega)
   have e2:((acc++f a)++r.flatMap f).take n=(acc++f a).take n:=List.take_append_of_le_length (by simp;omega)
   rw[e1,e2,List.take_append,List.take_append,List.take_take,Nat.min_eq_left (by omega)]
theorem a6o (ht:a5n G ord){N:Nat}(hN:ord.length+1≤N){has:Int→Bool}(hhas: ∀x,has x=false→G x=[]):
  ∀(rest pre:List Int) (E:Int→List Int),ord=pre++rest→(∀p,E p=if p∈pre∧G p≠ [] then (wh G N p).take 19 else [])→
   ∀p,ad9 has G rest E p=if p∈ord∧G p≠ [] then (wh G N p).take 19 else []:=by
 intro rest
 induction rest with
 | nil=>intro pre E hs hE p;simp at hs;subst hs;exact hE p
 | cons x r ih=>
  intro pre E hs hE p
  unfold ad9
  refine ih (pre++[x]) _ (by rw[hs];simp) ?_ p
  intro q
  have hends: ∀y∈G x,aak E y=(wh G N y).take 19:=fun y hy=>by
   have hyp:=ht pre x r hs y hy
   unfold aak
   rw[hE y]
   by_cases hG:G y=[]
   ·simp[hG,ah2 hG]
   ·have hne:(wh G N y).take 19≠ []:=by
     intro e
     rw[List.take_eq_nil_iff] at e
     rcases e with e | e
     ·omega
     ·exact a2c N y e
    have e1:(if y∈pre∧G y≠ [] then (wh G N y).take 19 else [])=(wh G N y).take 19:=if_pos ⟨hyp,hG⟩
    rw[e1,if_neg hne]
  have hval:agm E [] (G x)=if G x≠ [] then (wh G N x).take 19 else []:=by
   rw[avo E (G x) [] (by simp),List.nil_append,adv hends]
   have:=ajm (f:=wh G N) 19 (G x) []
   rw[List.nil_append,List.nil_append] at this
   rw[this]
   by_cases hG:G x=[]
   ·simp[hG]
   ·rw[if_pos hG,a7f ht hN (by rw[hs];simp) hG]
  by_cases hh:has x=true
  ·rw[if_pos hh]
   show(if q=x then agm E [] (G x) else E q)=_
   by_cases hq:q=x
   ·subst hq
    rw[if_pos rfl,hval]
    by_cases hG:G q=[]
    ·simp[hG]
    ·simp[hG]
   ·rw[if_neg hq,hE q]
    simp[hq]
  ·rw[if_neg hh,hE q]
   by_cases hq:q=x
   ·subst hq
    have:=hhas q (by simpa using hh)
    simp[this]
   ·simp[hq]
end
end Go.Vf
namespace Go.Vf
open Go.RowKit
variable {P:Program}
def bs (l:List UInt8):ByteArray:=⟨l.toArray⟩
theorem a1v (l:List UInt8):(bs l).data.toList=l:=by simp[bs]
theorem ar0 (l:List UInt8):(bs l).toList=l:=by rw[ByteArray.toList_eq,a1v]
theorem aps {a b:ByteArray}(h:a.data.toList=b.data.toList):a=b:=by
 obtain⟨⟨x⟩⟩:=a;obtain⟨⟨y⟩⟩:=b;simp at h;rw[h]
structure BRow (w:World)(h:Nat)(l:List UInt8):Prop where
 cell: ∀j (hj:j<l.length),w.cell? ⟨h,j,none⟩=some (.int .u8 ((l[j]'hj).toNat:Int))
 free: ∀j,j<l.length→w.frozen? ⟨h,j,none⟩=false
def aa7 (l:List UInt8):List Value:=l.map fun x=>Value.int .u8 (x.toNat:Int)
theorem amo (w:World)(src dst e:TypeId)(hs:P.underlying src=some (.slice e))(he:P.underlying e=some (.int .u8))(hd:P.underlying dst=some .string)(h n cap:Nat)(l:List UInt8)(hn:n≤l.length)(hr:BRow w h l):
  (convert src dst (.slice (some ⟨h,0,none⟩) n cap)).run P w=.ok (.string (bs (l.take n))) w:=by
 have hc:=run_convert_bytes_arg (P:=P) w src e hs he h 0 n cap ((l.take n).map fun x=>(x.toNat:Int)) (by simp;omega) (fun i hi=>by
  rw[Nat.zero_add,hr.cell i (by omega)]
  simp[List.getD,hi,List.getElem?_eq_getElem (show i<l.length by omega)]) dst hd
 rw[hc]
 have e:strOfNums ((l.take n).map fun x=>(x.toNat:Int))=bs (l.take n):=aps (by rw[strOfNums_data,a1v];simp[Function.comp_def])
 rw[e]
end Go.Vf
namespace Go.Vf
open Go.RowKit
variable {P:Program}
def BOwn (e:TypeId)(w:World)(base:Nat)(v:Value)(acc:List UInt8):Prop:=w.ownsRow base e 1 v acc.length (aa7 acc)
theorem BOwn.nil (e:TypeId)(w:World)(base:Nat):BOwn e w base (.slice none 0 0) []:=World.ownsRow_nil _ _ _ _
theorem BOwn.alloc {e:TypeId}{w:World}{base:Nat}{v:Value}{acc:List UInt8}(h:BOwn e w base v acc)(o:Obj):BOwn e (w.alloc o) base v acc:=World.ownsRow.alloc h o
theorem BOwn.form {e:TypeId}{w:World}{base:Nat}{v:Value}{acc:List UInt8}(h:BOwn e w base v acc):
  (v=.slice none 0 0∧acc=[])∨ ∃g cap,v=.slice (some ⟨g,0,none⟩) acc.length cap∧base≤g∧acc.length≤cap∧cap≤maxLen∧BRow w g acc:=by
 obtain⟨h1,h2⟩:=h
 rcases h2 with ⟨rfl,hn⟩ | ⟨g,cap,cur,rfl,hb,hh,hc1,hc2,hc3,hc4⟩
 ·exact .inl ⟨rfl,List.eq_nil_of_length_eq_zero hn⟩
 ·refine .inr ⟨g,cap,rfl,hb,hc1,hc2,⟨fun j hj=> ?_,fun j hj=> ?_⟩⟩
  ·have hx:(aa7 acc)[j]? =some (.int .u8 ((acc[j]'hj).toNat:Int)):=by simp[aa7,hj]
   rw[←hc4,List.getElem?_take_of_lt (by omega)] at hx
   simp only[World.cell?,hh]
   simpa using hx
  ·simp[World.frozen?,hh]
theorem afq (w:World)(src dst e:TypeId)(hs:P.underlying src=some (.slice e))(he:P.underlying e=some (.int .u8))(hd:P.underlying dst=some .string)(base:Nat)(v:Value)(acc:List UInt8)(h:BOwn e w base v acc):
  (convert src dst v).run P w=.ok (.string (bs acc)) w:=by
 rcases h.form with ⟨rfl,rfl⟩ | ⟨g,cap,rfl,_,_,_,hr⟩
 ·rw[run_convert_bytes_nil (P:=P) w src e hs he 0 0 dst hd]
  try rfl
 ·rw[amo w src dst e hs he hd g acc.length cap acc (Nat.le_refl _) hr,List.take_length]
end Go.Vf
namespace Go.Vf
def aa3 (c:UInt8):List UInt8→List (List UInt8)
 | []=>[[]]
 | b::r=>if b=c then []::aa3 c r else match aa3 c r with
  | []=>[[b]]
  | h::t=>(b::h)::t
theorem aig (c:UInt8): ∀l,aa3 c l≠ []:=by
 intro l
 cases l with
 | nil=>simp[aa3]
 | cons b r=>
  unfold aa3
  split
  ·simp
  ·split<;>simp
theorem ac9 (c:UInt8): ∀l:List UInt8,(∀x∈l,x≠c)→aa3 c l=[l]:=by
 intro l
 induction l with
 | nil=>intro _;rfl
 | cons b r ih=>
  intro h
  unfold aa3
  rw[if_neg (h b (by simp)),ih (fun x hx=>h x (by simp[hx]))]
theorem ace (c:UInt8): ∀(a r:List UInt8),(∀x∈a,x≠c)→aa3 c (a++c::r)=a::aa3 c r:=by
 intro a
 induction a with
 | nil=>intro r _;simp[aa3]
 | cons b t ih=>
  intro r h
  rw[List.cons_append,aa3,if_neg (h b (by simp)),ih r (fun x hx=>h x (by simp[hx]))]
theorem anv (c:UInt8): ∀l:List UInt8,Lib.index l [c]= -1→ ∀x∈l,x≠c:=by
 intro l
 induction l with
 | nil=>simp
 | cons b r ih=>
  intro h x hx e
  subst e
  by_cases hb:b=x
  ·subst hb
   rw[Lib.index] at h
   simp[List.isPrefixOf] at h
  ·have hp:([x]:List UInt8).isPrefixOf (b::r)=false:=by simp[List.isPrefixOf,Ne.symm hb]
   have hix:Lib.index (b::r) [x]=if Lib.index r [x]== -1 then -1 else Lib.index r [x]+1:=by rw[Lib.index,hp];simp
   rw[hix] at h
   have hge:=Lib.index_ge r [x]
   by_cases hm:Lib.index r [x]= -1
   ·exact ih hm x ((List.mem_cons.1 hx).resolve_left (fun e=>hb e.symm)) rfl
   ·rw[if_neg (fun e=>hm (beq_iff_eq.1 e))] at h;omega
theorem anu (c:UInt8): ∀(l:List UInt8) (i:Nat),Lib.index l [c]=(i:Int)→i<l.length∧(∀x∈l.take i,x≠c)∧l=l.take i++c::l.drop (i+1):=by
 intro l
 induction l with
 | nil=>intro i h;simp[Lib.index] at h
 | cons b r ih=>
  intro i h
  by_cases hb:b=c
  ·subst hb
   have hix:Lib.index (b::r) [b]=((0:Nat):Int):=by rw[Lib.index];simp[List.isPrefixOf]
   rw[hix] at h
   obtain rfl:i=0:=by omega
   simp
  ·have hp:([c]:List UInt8).isPrefixOf (b::r)=false:=by simp[List.isPrefixOf,Ne.symm hb]
   have hix:Lib.index (b::r) [c]=if Lib.index r [c]== -1 then -1 else Lib.index r [c]+1:=by rw[Lib.index,hp];simp
   rw[hix] at h
   by_cases hm:Lib.index r [c]= -1
   ·rw[if_pos (beq_iff_eq.2 hm)] at h;omega
   ·rw[if_neg (fun e=>hm (beq_iff_eq.1 e))] at h
    obtain⟨j,rfl⟩: ∃j,i=j+1:=⟨i-1,by have:=Lib.index_ge r [c];omega⟩
    obtain⟨h1,h2,h3⟩:=ih j (by omega)
    refine⟨by simp;omega,?_,?_⟩
    ·intro x hx
     simp only[List.take_succ_cons,List.mem_cons] at hx
     rcases hx with rfl | hx
     ·exact hb
     ·exact h2 x hx
    ·simp only[List.take_succ_cons,List.drop_succ_cons,List.cons_append]
     rw[←h3]
theorem awk (c:UInt8): ∀(k:Nat) (l:List UInt8),Lib.count l [c]=k→Lib.splitK [c] 0 k l=aa3 c l:=by
 intro k
 induction k with
 | zero=>
  intro l hk
  by_cases hm:Lib.index l [c]= -1
  ·rw[ac9 c l (anv c l hm)];rfl
  ·have hge:=Lib.index_ge l [c]
   obtain⟨i,hi⟩: ∃i:Nat,Lib.index l [c]=i:=⟨(Lib.index l [c]).toNat,by omega⟩
   rw[Lib.count_hit (by simp) hi] at hk
   omega
 | succ k ih=>
  intro l hk
  by_cases hm:Lib.index l [c]= -1
  ·rw[Lib.count_miss hm] at hk;omega
  ·have hge:=Lib.index_ge l [c]
   obtain⟨i,hi⟩: ∃i:Nat,Lib.index l [c]=i:=⟨(Lib.index l [c]).toNat,by omega⟩
   have hc:=Lib.count_hit (by simp) hi
   rw[hk] at hc
   obtain⟨h1,h2,h3⟩:=anu c l i hi
   unfold Lib.splitK
   rw[if_neg (fun e=>hm (beq_iff_eq.1 e)),hi]
   simp only[Int.toNat_natCast,Nat.add_zero,List.length_cons,List.length_nil,Nat.zero_add]
   rw[ih _ (by simp only[List.length_cons,List.length_nil,Nat.zero_add] at hc;omega)]
   conv=>rhs;rw[h3]
   rw[ace c _ _ h2]
abbrev bsz (l:List UInt8):ByteArray:=⟨l.toArray⟩
theorem ap8 (c:UInt8)(s:ByteArray):Lib.splitB ⟨#[c]⟩ 0 (Lib.countB s ⟨#[c]⟩) s=(aa3 c s.data.toList).map bsz:=by
 have h:=Lib.splitB_data ⟨#[c]⟩ 0 (Lib.countB s ⟨#[c]⟩) s
 have h2:=awk c (Lib.countB s ⟨#[c]⟩) s.data.toList rfl
 rw[show (⟨#[c]⟩:ByteArray).data.toList=[c] from rfl,h2] at h
 rw[←h,List.map_map]
 have:(bsz ∘ fun x:ByteArray=>x.data.toList)=id:=by
  funext x
  cases x
  rfl
 rw[this,List.map_id]
theorem auh (c:UInt8)(s:ByteArray):Lib.countB s ⟨#[c]⟩+1=(aa3 c s.data.toList).length:=by
 have h:=ap8 c s
 have h2:=Lib.splitB_all ⟨#[c]⟩ (Nat.le_refl _) 0 _ s rfl
 rw[h,List.length_map] at h2
 exact h2.symm
theorem abj (c:UInt8): ∀(l:List UInt8),∀x∈aa3 c l,x.length≤l.length:=by
 intro l
 induction l with
 | nil=>simp[aa3]
 | cons b r ih=>
  intro x hx
  unfold aa3 at hx
  split at hx
  ·rcases List.mem_cons.1 hx with rfl | hx
   ·simp
   ·have:=ih x hx;simp;omega
  ·split at hx
   ·simp at hx;subst hx;simp
   ·rename_i h t e
    rw[e] at ih
    rcases List.mem_cons.1 hx with rfl | hx
    ·have:=ih h (by simp);simp;omega
    ·have:=ih x (by simp[hx]);simp;omega
theorem abl (c:UInt8): ∀(l:List UInt8),(aa3 c l).length≤l.length+1:=by
 intro l
 induction l with
 | nil=>simp[aa3]
 | cons b r ih=>
  unfold aa3
  split
  ·simp;omega
  ·split
   ·simp
   ·rename_i h t e
    rw[e] at ih
    simp at ih⊢;omega
theorem a6u (c:UInt8): ∀(l:List UInt8),∀x∈aa3 c l,∀b∈x,b≠c:=by
 intro l
 induction l with
 | nil=>intro x hx b hb;simp[aa3] at hx;subst hx;simp at hb
 | cons a r ih=>
  intro x hx b hb
  unfold aa3 at hx
  split at hx
  ·rcases List.mem_cons.1 hx with rfl | hx
   ·simp at hb
   ·exact ih x hx b hb
  ·rename_i hac
   split at hx
   ·simp at hx;subst hx;simp at hb;subst hb;exact hac
   ·rename_i h t e
    rw[e] at ih
    rcases List.mem_cons.1 hx with rfl | hx
    ·rcases List.mem_cons.1 hb with rfl | hb
     ·exact hac
     ·exact ih h (by simp) b hb
    ·exact ih x (by simp[hx]) b hb
def ac8 (c:UInt8):Option Nat:=if 65≤c.toNat∧c.toNat≤70 then some (c.toNat-55) else if 48≤c.toNat∧c.toNat≤57 then some (c.toNat-48) else none
def ail (c:UInt8):Option Nat:=if 48≤c.toNat∧c.toNat≤57 then some (c.toNat-48) else none
def acw (v:UInt8→Option Nat)(b:Nat):List UInt8→Nat→Option Nat
 | [],n=>some n
 | c::r,n=>match v c with
  | none=>none
  | some d=>acw v b r (n*b+d)
def ab7 (n:Int):Bool:=decide (44032≤n)&&decide (n≤55203)
def aed (n:Int):Bool:=decide (0≤n)&&decide (n≤1114111)&&(decide (n<55296)||decide (57343<n))&& !ab7 n
def abe (s:List UInt8):Option Int:=
 if s.length=4∨(4<s.length∧s.length≤6∧s.head?≠some 48) then
  match acw ac8 16 s 0 with
  | none=>none
  | some n=>if aed (n:Int) then some (n:Int) else none
 else none
def aci (s:List UInt8):Option Int:=
 if s=[48]∨(s≠ []∧s.head?≠some 48∧s.length≤3) then
  match acw ail 10 s 0 with
  | none=>none
  | some n=>if n≤254 then some (n:Int) else none
 else none
def aa2:List (List UInt8)→Option (List Int)
 | []=>some []
 | s::r=>match abe s with
  | none=>none
  | some p=>match aa2 r with
   | none=>none
   | some l=>some (p::l)
def ad5 (s:List UInt8):Option (List Int):=if s=[] then some [] else aa2 (aa3 32 s)
structure Mk where
 line:Int
 point:Int
 cls:Int
 parts:List Int
deriving DecidableEq
def akl:List (List UInt8)→Option (Int×Int×List Int)
 | [a,b,c]=>match abe a with
  | none=>none
  | some p=>match aci b with
   | none=>none
   | some k=>match ad5 c with
    | none=>none
    | some l=>some (p,k,l)
 | _=>none
def acj (s:List UInt8):Option (Int×Int×List Int):=akl (aa3 59 s)
def aav (s:List UInt8):Bool:=s.isEmpty||s.head? ==some 35
def aar:List (List UInt8)→Int→List Mk→Except (Int×Int) (List Mk)
 | [],_,acc=>.ok acc
 | s::r,n,acc=>
  if aav s then aar r (n+1) acc else
  match acj s with
  | none=>.error (40,n+1)
  | some (p,k,l)=>
   if acc.any (fun m=>m.point==p) then .error (41,n+1)
   else if 4096≤acc.length then .error (2,n+1)
   else aar r (n+1) (acc++[⟨n+1,p,k,l⟩])
def aau (L:List Mk)(p:Int):Option Mk:=L.find? (fun m=>m.point==p)
def aab (L:List Mk)(p:Int):List Int:=((aau L p).map Mk.parts).getD []
def aaa (L:List Mk)(p:Int):Int:=((aau L p).map Mk.cls).getD 0
def ade (L:List Mk)(p:Int):Bool:=(aau L p).isSome
end Go.Vf
namespace Go.Proofs.YtfhpgmlfgjfknaaGreatDoor
open Go.RowKit Go.Vf
abbrev a3l (why line:Int):Value:=.iface 88 (.agg #[.int .i64 why,.int .i64 line])
abbrev ajt (why line:Int):Ending:=.panicked [{v:=a3l why line,recovered:=false}]
theorem aog {P:Program}{f:FuncId}{args:Array Value}{w:World}{F:Ending→World→Prop}{e0:Ending}{R:World→Prop}(v0:Value)(hc:Calls P f args w fun e w'=>e=e0∧R w')(hF: ∀w',R w'→F e0 w')(_fake:Hid False→F (.returned v0) w):Calls P f args w F:=
 hc.mono (by rintro e w' ⟨rfl,h⟩;exact hF w' h)
theorem ax2 {P:Program}{f:FuncId}{args:Array Value}{w:World}{F:Ending→World→Prop}(v0:Value)(hX:Hid False)(_fake:F (.returned v0) w):Calls P f args w F:=hX.out.elim
theorem aec (p:Value)(h:Bool)(why:Int)(w:World)(hh:h=true):
  Calls Tryz.prog 109 #[p,.bool h,.int .i64 why] w fun e w'=>e=.returned (.tuple #[])∧w=w':=by
 subst hh
 go_enter Tryz.func109,Tryz.ntmps109
 go_wp2
 go_end0
 exact⟨rfl,rfl⟩
theorem adl (b:Nat)(h:Bool)(why line:Int)(w:World)(hh:h=false)(hl:w.cell? ⟨b,0,none⟩=some (.int .i64 line)):
  Calls Tryz.prog 109 #[.pointer (some ⟨b,0,none⟩),.bool h,.int .i64 why] w fun e w'=>e=ajt why line∧w=w':=by
 subst hh
 go_enter Tryz.func109,Tryz.ntmps109
 go_wp2
 exact⟨rfl,rfl,rfl⟩
def ase (line:Int):Option Nat→Ending
 | some n=>.returned (.int .i64 (n:Int))
 | none=>ajt 40 line
theorem adh (b:Nat)(c:UInt8)(line:Int)(w:World)(hl:w.cell? ⟨b,0,none⟩=some (.int .i64 line)):
  Calls Tryz.prog 152 #[.pointer (some ⟨b,0,none⟩),.int .u8 (c.toNat:Int)] w fun e w'=>e=ase line (ail c)∧w=w':=by
 have hc:=c.toNat_lt
 by_cases h:48≤c.toNat∧c.toNat≤57
 ·obtain⟨h1,h2⟩:=h
  have e1:ail c=some (c.toNat-48):=by simp[ail,h1,h2]
  rw[e1]
  go_enter Tryz.func152,Tryz.ntmps152
  go_wp2_with fail
  refine(aec _ _ _ _ (by simp;try omega)).mono ?_
  rintro e w1 ⟨rfl,rfl⟩
  go_wp2
  go_ret
  refine⟨?_,rfl⟩
  simp[ase]
  omega
 ·have e1:ail c=none:=by simp[ail];omega
  rw[e1]
  go_enter Tryz.func152,Tryz.ntmps152
  go_wp2_with fail
  all_goals
   refine(adl b _ _ line _ (by simp;try omega) hl).mono ?_
   rintro e w1 ⟨rfl,rfl⟩
   go_wp2
   exact⟨rfl,rfl,rfl⟩
theorem ale (b:Nat)(c:UInt8)(line:Int)(w:World)(hl:w.cell? ⟨b,0,none⟩=some (.int .i64 line)):
  Calls Tryz.prog 151 #[.pointer (some ⟨b,0,none⟩),.int .u8 (c.toNat:Int)] w fun e w'=>e=ase line (ac8 c)∧w=w':=by
 have hc:=c.toNat_lt
 by_cases h:65≤c.toNat∧c.toNat≤70
 ·obtain⟨h1,h2⟩:=h
  have e1:ac8 c=some (c.toNat-55):=by simp[ac8,h1,h2]
  rw[e1]
  go_enter Tryz.func151,Tryz.ntmps151
  go_wp2
  go_ret
  refine⟨?_,rfl⟩
  simp[ase]
  omega
 ·have e1:ac8 c=ail c:=by
   unfold ac8 ail
   rw[if_neg h]
  rw[e1]
  by_cases h1:c.toNat<65
  ·go_enter Tryz.func151,Tryz.ntmps151
   go_wp2_with fail
   refine(adh b c line _ hl).mono ?_
   rintro e w1 ⟨rfl,rfl⟩
   cases hd:ail c with
   | none=>
    simp only[ase]
    go_wp2
    exact⟨rfl,by rw[hd];rfl,rfl⟩
   | some d=>
    simp only[ase]
    go_wp2
    go_ret
    exact⟨by rw[hd];rfl,rfl⟩
  ·have h2:70<c.toNat:=by omega
   go_enter Tryz.func151,Tryz.ntmps151
   go_wp2_with fail
   refine(adh b c line _ hl).mono ?_
   rintro e w1 ⟨rfl,rfl⟩
   cases hd:ail c with
   | none=>
    simp only[ase]
    go_wp2
    exact⟨rfl,by rw[hd];rfl,rfl⟩
   | some d=>
    simp only[ase]
    go_wp2
    go_ret
    exact⟨by rw[hd];rfl,rfl⟩
theorem ad1 (n:Int)(w:World):
  Calls Tryz.prog 115 #[.int .i64 n] w fun e w'=>e=.returned (.bool (ab7 n))∧w=w':=by
 by_cases h1:44032≤n
 ·by_cases h2:n≤55203
  ·go_enter Tryz.func115,Tryz.ntmps115
   go_wp2
   go_ret
   exact⟨by simp[ab7,h1,h2],rfl⟩
  ·go_enter Tryz.func115,Tryz.ntmps115
   go_wp2
   go_ret
   exact⟨by simp[ab7,h2],rfl⟩
 ·go_enter Tryz.func115,Tryz.ntmps115
  go_wp2
  go_ret
  exact⟨by simp[ab7];omega,rfl⟩
theorem afk (n:Int)(w:World):
  Calls Tryz.prog 119 #[.int .i64 n] w fun e w'=>e=.returned (.bool (aed n))∧w=w':=by
 by_cases h1:0≤n
 ·by_cases h2:n≤1114111
  ·by_cases h3:n<55296
   ·go_enter Tryz.func119,Tryz.ntmps119
    go_wp2_with fail
    refine(ad1 n _).mono ?_
    rintro e w1 ⟨rfl,rfl⟩
    go_wp2
    go_ret
    exact⟨by simp[aed,h1,h2,h3],rfl⟩
   ·by_cases h4:57343<n
    ·go_enter Tryz.func119,Tryz.ntmps119
     go_wp2_with fail
     refine(ad1 n _).mono ?_
     rintro e w1 ⟨rfl,rfl⟩
     go_wp2
     go_ret
     exact⟨by simp[aed,h1,h2,h4],rfl⟩
    ·go_enter Tryz.func119,Tryz.ntmps119
     go_wp2
     go_ret
     exact⟨by simp[aed];omega,rfl⟩
  ·go_enter Tryz.func119,Tryz.ntmps119
   go_wp2
   go_ret
   exact⟨by simp[aed];omega,rfl⟩
 ·go_enter Tryz.func119,Tryz.ntmps119
  go_wp2
  go_ret
  exact⟨by simp[aed];omega,rfl⟩
def amk (line:Int):Option Int→Ending
 | some n=>.returned (.int .i64 n)
 | none=>ajt 40 line
theorem aif (s:ByteArray)(k:Nat)(hk:k<s.size):s.data.toList.drop k=s[k]::s.data.toList.drop (k+1):=by
 rw[List.drop_eq_getElem_cons (by rw[←Lib.size_eq];exact hk)]
 try rfl
theorem agq (s:ByteArray)(k:Nat)(hk:s.size≤k):s.data.toList.drop k=[]:=List.drop_of_length_le (by rw[←Lib.size_eq];exact hk)
theorem ae6 (s:ByteArray)(h:0<s.size):s.data.toList.head? =some s[0]:=by
 have:=aif s 0 h
 rw[List.drop_zero] at this
 rw[this];rfl
def ank (line:Int)(r:Option Nat):Ending:=amk line (match r with
 | none=>none
 | some n=>if aed (n:Int) then some (n:Int) else none)
theorem at4 {c:UInt8}{d:Nat}(h:ac8 c=some d):d<16:=by
 unfold ac8 at h
 split at h
 ·simp at h;omega
 ·split at h
  ·simp at h;omega
  ·cases h
theorem a1g {c:UInt8}{d:Nat}(h:ail c=some d):d<10:=by
 unfold ail at h
 split at h
 ·simp at h;omega
 ·cases h
set_option maxHeartbeats 1000000 in
theorem aiz (b:Nat)(s:ByteArray)(line:Int)(w:World)(hs:s.size≤17179869184)(hl:w.cell? ⟨b,0,none⟩=some (.int .i64 line)):
  Calls Tryz.prog 110 #[.pointer (some ⟨b,0,none⟩),.string s] w fun e w'=>e=amk line (abe s.data.toList)∧w=w':=by
 have hsl:s.data.toList.length=s.size:=(Lib.size_eq s).symm
 by_cases hlen:s.size=4∨(4<s.size∧s.size≤6∧s.data.toList.head?≠some 48)
 ·have e1:amk line (abe s.data.toList)=ank line (acw ac8 16 s.data.toList 0):=by
   unfold abe ank
   rw[if_pos (by rw[hsl];exact hlen)]
   try rfl
  rw[e1]
  have hs6:s.size≤6:=by omega
  generalize hR:acw ac8 16 s.data.toList 0=R
  have HR:Hid (acw ac8 16 s.data.toList 0=R):=hR
  clear hR e1
  rcases hlen with h4 | ⟨h4,_,h0⟩
  ·have h4':((s.size:Int)==4)=true:=by simp[h4]
   go_enter Tryz.func110,Tryz.ntmps110
   go_wp2_with fail
   refine(aec _ _ _ _ (by simp;try omega)).mono ?_
   rintro e w1 ⟨rfl,rfl⟩
   go_wp2_with fail
   go_loopw [5,29] (fun x i wr=> ∃k n:Nat,k≤s.size∧i=.int .i64 k∧x=.int .i64 n∧n<16^k∧Hid (acw ac8 16 (s.data.toList.drop k) n=R)∧w=wr) (fun _ i _=>s.size-(intOf i).toNat)
   case atStart=>exact⟨0,0,by omega,rfl,rfl,by omega,by simpa using HR,rfl⟩
   case round=>
    obtain⟨k,n,hk,rfl,rfl,hn,HK,rfl⟩:=hrel
    have hp6:(16:Nat)^k≤16^6:=Nat.pow_le_pow_right (by omega) (by omega)
    by_cases hlt:k<s.size
    ·have hd:=aif s k hlt
     have hb8:=s[k].toNat_lt
     go_wp2_with fail
     refine(ale b s[k] line _ hl).mono ?_
     rintro e w2 ⟨rfl,rfl⟩
     cases hv:ac8 s[k] with
     | none=>
      have hRn:R=none:=by rw[←HK.out,hd,acw,hv]
      simp only[ase]
      go_wp2
      exact⟨rfl,by rw[hRn];rfl,rfl⟩
     | some d=>
      have hd16:=at4 hv
      have HK2:Hid (acw ac8 16 (s.data.toList.drop (k+1)) (n*16+d)=R):=by
       show _=_
       rw[←HK.out,hd,acw,hv]
      simp only[ase]
      have hn2:n*16+d<16^(k+1):=by rw[Nat.pow_succ];omega
      clear HK hd hv
      go_wp2
      go_roundw
      case rel=>exact⟨k+1,n*16+d,by omega,by simp,by simp;try omega,hn2,HK2,by trivial⟩
      case measure=>simp only[intOf];omega
    ·have hRs:R=some n:=by rw[←HK.out,agq s k (by omega)];rfl
     clear HK
     go_wp2_with fail
     refine(afk n _).mono ?_
     rintro e w2 ⟨rfl,rfl⟩
     cases hm:aed (n:Int) with
     | true=>
      go_wp2_with fail
      refine(aec _ _ _ _ rfl).mono ?_
      rintro e w2 ⟨rfl,rfl⟩
      go_wp2
      go_ret
      exact⟨by rw[hRs];simp[ank,hm,amk],rfl⟩
     | false=>
      go_wp2_with fail
      refine(adl b _ _ line _ rfl hl).mono ?_
      rintro e w2 ⟨rfl,rfl⟩
      go_wp2
      exact⟨rfl,by rw[hRs];simp[ank,hm,amk],rfl⟩
  ·have hne': ¬(s[0].toNat:Int)=48:=by
    rw[ae6 s (by omega)] at h0
    simp only[ne_eq,Option.some.injEq] at h0
    intro e
    exact h0 (UInt8.toNat_inj.1 (by
     have:s[0].toNat=48:=by omega
     simpa using this))
   have hne:((s[0].toNat:Int)==48)=false:=by simpa using hne'
   have h4':((s.size:Int)==4)=false:=by simp;omega
   clear h0
   go_enter Tryz.func110,Tryz.ntmps110
   go_wp2_with fail
   refine(aec _ _ _ _ (by simp;try first | omega | exact hne')).mono ?_
   rintro e w1 ⟨rfl,rfl⟩
   go_wp2_with fail
   go_loopw [5,29] (fun x i wr=> ∃k n:Nat,k≤s.size∧i=.int .i64 k∧x=.int .i64 n∧n<16^k∧Hid (acw ac8 16 (s.data.toList.drop k) n=R)∧w=wr) (fun _ i _=>s.size-(intOf i).toNat)
   case atStart=>exact⟨0,0,by omega,rfl,rfl,by omega,by simpa using HR,rfl⟩
   case round=>
    obtain⟨k,n,hk,rfl,rfl,hn,HK,rfl⟩:=hrel
    have hp6:(16:Nat)^k≤16^6:=Nat.pow_le_pow_right (by omega) (by omega)
    by_cases hlt:k<s.size
    ·have hd:=aif s k hlt
     have hb8:=s[k].toNat_lt
     go_wp2_with fail
     refine(ale b s[k] line _ hl).mono ?_
     rintro e w2 ⟨rfl,rfl⟩
     cases hv:ac8 s[k] with
     | none=>
      have hRn:R=none:=by rw[←HK.out,hd,acw,hv]
      simp only[ase]
      go_wp2
      exact⟨rfl,by rw[hRn];rfl,rfl⟩
     | some d=>
      have hd16:=at4 hv
      have HK2:Hid (acw ac8 16 (s.data.toList.drop (k+1)) (n*16+d)=R):=by
       show _=_
       rw[←HK.out,hd,acw,hv]
      simp only[ase]
      have hn2:n*16+d<16^(k+1):=by rw[Nat.pow_succ];omega
      clear HK hd hv
      go_wp2
      go_roundw
      case rel=>exact⟨k+1,n*16+d,by omega,by simp,by simp;try omega,hn2,HK2,by trivial⟩
      case measure=>simp only[intOf];omega
    ·have hRs:R=some n:=by rw[←HK.out,agq s k (by omega)];rfl
     clear HK
     go_wp2_with fail
     refine(afk n _).mono ?_
     rintro e w2 ⟨rfl,rfl⟩
     cases hm:aed (n:Int) with
     | true=>
      go_wp2_with fail
      refine(aec _ _ _ _ rfl).mono ?_
      rintro e w2 ⟨rfl,rfl⟩
      go_wp2
      go_ret
      exact⟨by rw[hRs];simp[ank,hm,amk],rfl⟩
     | false=>
      go_wp2_with fail
      refine(adl b _ _ line _ rfl hl).mono ?_
      rintro e w2 ⟨rfl,rfl⟩
      go_wp2
      exact⟨rfl,by rw[hRs];simp[ank,hm,amk],rfl⟩
 ·have e1:abe s.data.toList=none:=by
   unfold abe
   rw[if_neg (by rw[hsl];exact hlen)]
  rw[e1]
  have h4':((s.size:Int)==4)=false:=by simp;omega
  by_cases h4:s.size<4
  ·go_enter Tryz.func110,Tryz.ntmps110
   go_wp2_with fail
   refine(adl b _ _ line _ (by simp;try omega) hl).mono ?_
   rintro e w1 ⟨rfl,rfl⟩
   go_wp2
   exact⟨rfl,rfl,rfl⟩
  ·by_cases h6:6<s.size
   ·go_enter Tryz.func110,Tryz.ntmps110
    go_wp2_with fail
    refine(adl b _ _ line _ (by simp;try omega) hl).mono ?_
    rintro e w1 ⟨rfl,rfl⟩
    go_wp2
    exact⟨rfl,rfl,rfl⟩
   ·have h5:4<s.size:=by omega
    have hs6:s.size≤6:=by omega
    have h0:s.data.toList.head? =some 48:=by
     by_cases hh:s.data.toList.head? =some 48
     ·exact hh
     ·exact absurd (Or.inr ⟨h5,hs6,hh⟩) hlen
    have he':(s[0].toNat:Int)=48:=by
     rw[ae6 s (by omega)] at h0
     simp only[Option.some.injEq] at h0
     rw[h0];rfl
    have he:((s[0].toNat:Int)==48)=true:=by simpa using he'
    clear h0 hlen
    go_enter Tryz.func110,Tryz.ntmps110
    go_wp2_with fail
    refine(adl b _ _ line _ (by simp;try first | omega | exact he') hl).mono ?_
    rintro e w1 ⟨rfl,rfl⟩
    go_wp2
    exact⟨rfl,rfl,rfl⟩
def aoc (line:Int)(r:Option Nat):Ending:=amk line (match r with
 | none=>none
 | some n=>if n≤254 then some (n:Int) else none)
set_option maxHeartbeats 1000000 in
theorem ao6 (b:Nat)(s:ByteArray)(line:Int)(w:World)(hs:s.size≤17179869184)(hl:w.cell? ⟨b,0,none⟩=some (.int .i64 line)):
  Calls Tryz.prog 111 #[.pointer (some ⟨b,0,none⟩),.string s] w fun e w'=>e=amk line (aci s.data.toList)∧w=w':=by
 have hsl:s.data.toList.length=s.size:=(Lib.size_eq s).symm
 by_cases hlen:s.data.toList=[48]∨(s.data.toList≠ []∧s.data.toList.head?≠some 48∧s.data.toList.length≤3)
 ·have e1:amk line (aci s.data.toList)=aoc line (acw ail 10 s.data.toList 0):=by
   unfold aci aoc
   rw[if_pos hlen]
   try rfl
  rw[e1]
  generalize hR:acw ail 10 s.data.toList 0=R
  have HR:Hid (acw ail 10 s.data.toList 0=R):=hR
  clear hR e1
  rcases hlen with h0 | ⟨h1,h0,h3⟩
  ·have h4':(s.toList== [48])=true:=by rw[ByteArray.toList_eq];simp[h0]
   have hs3:s.size≤3:=by rw[←hsl,h0];simp
   clear h0
   go_enter Tryz.func111,Tryz.ntmps111
   go_wp2_with fail
   refine(aec _ _ _ _ (by simp;try omega)).mono ?_
   rintro e w1 ⟨rfl,rfl⟩
   go_wp2_with fail
   go_loopw [5,27] (fun x i wr=> ∃k n:Nat,k≤s.size∧i=.int .i64 k∧x=.int .i64 n∧n<10^k∧Hid (acw ail 10 (s.data.toList.drop k) n=R)∧w=wr) (fun _ i _=>s.size-(intOf i).toNat)
   case atStart=>exact⟨0,0,by omega,rfl,rfl,by omega,by simpa using HR,rfl⟩
   case round=>
    obtain⟨k,n,hk,rfl,rfl,hn,HK,rfl⟩:=hrel
    have hp6:(10:Nat)^k≤10^3:=Nat.pow_le_pow_right (by omega) (by omega)
    by_cases hlt:k<s.size
    ·have hd:=aif s k hlt
     have hb8:=s[k].toNat_lt
     go_wp2_with fail
     refine(adh b s[k] line _ hl).mono ?_
     rintro e w2 ⟨rfl,rfl⟩
     cases hv:ail s[k] with
     | none=>
      have hRn:R=none:=by rw[←HK.out,hd,acw,hv]
      simp only[ase]
      go_wp2
      exact⟨rfl,by rw[hRn];rfl,rfl⟩
     | some d=>
      have hd16:=a1g hv
      have HK2:Hid (acw ail 10 (s.data.toList.drop (k+1)) (n*10+d)=R):=by
       show _=_
       rw[←HK.out,hd,acw,hv]
      simp only[ase]
      have hn2:n*10+d<10^(k+1):=by rw[Nat.pow_succ];omega
      clear HK hd hv
      go_wp2
      go_roundw
      case rel=>exact⟨k+1,n*10+d,by omega,by simp,by simp;try omega,hn2,HK2,by trivial⟩
      case measure=>simp only[intOf];omega
    ·have hRs:R=some n:=by rw[←HK.out,agq s k (by omega)];rfl
     clear HK
     by_cases hm:n≤254
     ·go_wp2_with fail
      refine(aec _ _ _ _ (by simp;try omega)).mono ?_
      rintro e w2 ⟨rfl,rfl⟩
      go_wp2
      go_ret
      exact⟨by rw[hRs];simp[aoc,hm,amk],rfl⟩
     ·go_wp2_with fail
      refine(adl b _ _ line _ (by simp;try omega) hl).mono ?_
      rintro e w2 ⟨rfl,rfl⟩
      go_wp2
      exact⟨rfl,by rw[hRs];simp[aoc,hm,amk],rfl⟩
  ·have hpos:0<s.size:=by
    rw[←hsl]
    exact List.length_pos_iff.2 h1
   have hs3:s.size≤3:=by omega
   have hne': ¬(s[0].toNat:Int)=48:=by
    rw[ae6 s hpos] at h0
    simp only[ne_eq,Option.some.injEq] at h0
    intro e
    exact h0 (UInt8.toNat_inj.1 (by
     have:s[0].toNat=48:=by omega
     simpa using this))
   have hne:((s[0].toNat:Int)==48)=false:=by simpa using hne'
   have h4':(s.toList== [48])=false:=by
    rw[ByteArray.toList_eq]
    simp only[beq_eq_false_iff_ne,ne_eq]
    intro e
    rw[e] at h0
    simp at h0
   have hemp:s.toList.isEmpty=false:=by rw[ByteArray.toList_eq];simpa using h1
   clear h0 h1
   go_enter Tryz.func111,Tryz.ntmps111
   go_wp2_with fail
   refine(aec _ _ _ _ (by simp;try first | omega | exact hne')).mono ?_
   rintro e w1 ⟨rfl,rfl⟩
   go_wp2_with fail
   go_loopw [5,27] (fun x i wr=> ∃k n:Nat,k≤s.size∧i=.int .i64 k∧x=.int .i64 n∧n<10^k∧Hid (acw ail 10 (s.data.toList.drop k) n=R)∧w=wr) (fun _ i _=>s.size-(intOf i).toNat)
   case atStart=>exact⟨0,0,by omega,rfl,rfl,by omega,by simpa using HR,rfl⟩
   case round=>
    obtain⟨k,n,hk,rfl,rfl,hn,HK,rfl⟩:=hrel
    have hp6:(10:Nat)^k≤10^3:=Nat.pow_le_pow_right (by omega) (by omega)
    by_cases hlt:k<s.size
    ·have hd:=aif s k hlt
     have hb8:=s[k].toNat_lt
     go_wp2_with fail
     refine(adh b s[k] line _ hl).mono ?_
     rintro e w2 ⟨rfl,rfl⟩
     cases hv:ail s[k] with
     | none=>
      have hRn:R=none:=by rw[←HK.out,hd,acw,hv]
      simp only[ase]
      go_wp2
      exact⟨rfl,by rw[hRn];rfl,rfl⟩
     | some d=>
      have hd16:=a1g hv
      have HK2:Hid (acw ail 10 (s.data.toList.drop (k+1)) (n*10+d)=R):=by
       show _=_
       rw[←HK.out,hd,acw,hv]
      simp only[ase]
      have hn2:n*10+d<10^(k+1):=by rw[Nat.pow_succ];omega
      clear HK hd hv
      go_wp2
      go_roundw
      case rel=>exact⟨k+1,n*10+d,by omega,by simp,by simp;try omega,hn2,HK2,by trivial⟩
      case measure=>simp only[intOf];omega
    ·have hRs:R=some n:=by rw[←HK.out,agq s k (by omega)];rfl
     clear HK
     by_cases hm:n≤254
     ·go_wp2_with fail
      refine(aec _ _ _ _ (by simp;try omega)).mono ?_
      rintro e w2 ⟨rfl,rfl⟩
      go_wp2
      go_ret
      exact⟨by rw[hRs];simp[aoc,hm,amk],rfl⟩
     ·go_wp2_with fail
      refine(adl b _ _ line _ (by simp;try omega) hl).mono ?_
      rintro e w2 ⟨rfl,rfl⟩
      go_wp2
      exact⟨rfl,by rw[hRs];simp[aoc,hm,amk],rfl⟩
 ·have e1:aci s.data.toList=none:=by
   unfold aci
   rw[if_neg hlen]
  rw[e1]
  have h4':(s.toList== [48])=false:=by
   rw[ByteArray.toList_eq]
   simp only[beq_eq_false_iff_ne,ne_eq]
   exact fun e=>hlen (Or.inl e)
  by_cases hemp:s.data.toList=[]
  ·have hemp':s.toList.isEmpty=true:=by rw[ByteArray.toList_eq];simpa using hemp
   clear hlen
   go_enter Tryz.func111,Tryz.ntmps111
   go_wp2_with fail
   refine(adl b _ _ line _ (by simp;try omega) hl).mono ?_
   rintro e w1 ⟨rfl,rfl⟩
   go_wp2
   exact⟨rfl,rfl,rfl⟩
  ·have hemp':s.toList.isEmpty=false:=by rw[ByteArray.toList_eq];simpa using hemp
   have hpos:0<s.size:=by
    rw[←hsl]
    exact List.length_pos_iff.2 hemp
   by_cases h0:s[0]=48
   ·have he':(s[0].toNat:Int)=48:=by rw[h0];rfl
    have he:((s[0].toNat:Int)==48)=true:=by simpa using he'
    clear h0 hlen hemp
    go_enter Tryz.func111,Tryz.ntmps111
    go_wp2_with fail
    refine(adl b _ _ line _ (by simp;try first | omega | exact he') hl).mono ?_
    rintro e w1 ⟨rfl,rfl⟩
    go_wp2
    exact⟨rfl,rfl,rfl⟩
   ·have hne': ¬(s[0].toNat:Int)=48:=by
     intro e
     exact h0 (UInt8.toNat_inj.1 (by
      have:s[0].toNat=48:=by omega
      simpa using this))
    have hne:((s[0].toNat:Int)==48)=false:=by simpa using hne'
    have h3:3<s.size:=by
     by_cases h3:3<s.size
     ·exact h3
     ·refine absurd (Or.inr ⟨hemp,?_,by omega⟩) hlen
      rw[ae6 s hpos]
      simpa using h0
    clear h0 hlen hemp
    go_enter Tryz.func111,Tryz.ntmps111
    go_wp2_with fail
    refine(adl b _ _ line _ (by simp;try first | omega | exact he') hl).mono ?_
    rintro e w1 ⟨rfl,rfl⟩
    go_wp2
    exact⟨rfl,rfl,rfl⟩
end Go.Proofs.YtfhpgmlfgjfknaaGreatDoor
