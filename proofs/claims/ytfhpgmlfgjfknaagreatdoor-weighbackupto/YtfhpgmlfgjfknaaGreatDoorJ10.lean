/- Contracts and lemmas (nothing is claimed here). -/
import Derived.Test.YtfhpgmlfgjfknaaGreatDoorJ9
namespace Go.Proofs.YtfhpgmlfgjfknaaGreatDoor
open Go.Vf
def wgt (k:Nat)(e:El)(wd:Bool):Int:=
 match k with
 | 0=>if wd then 0 else e.pr
 | 1=>if wd then 0 else e.se
 | 2=>if wd then 0 else e.te
 | _=>if e.va then e.pr else if wd||decide (e=⟨false,0,0,0⟩) then 0 else 65535
def auu (sh wd:Bool)(e:El):Bool:=if e.pr=0 then wd else sh&&e.va
def lvl (sh:Bool)(k:Nat):Bool→List El→List Int
 | _,[]=>[]
 | wd,e::r=>if wgt k e (auu sh wd e)=0 then lvl sh k (auu sh wd e) r else wgt k e (auu sh wd e)::lvl sh k (auu sh wd e) r
def lev (sh back:Bool)(k:Nat)(es:List El):List Int:=if k=1∧back=true then (lvl sh k false es).reverse else lvl sh k false es
def two (n:Int):List UInt8:=[UInt8.ofNat (n/256).toNat,UInt8.ofNat (n % 256).toNat]
def awp (r:List Int):List UInt8:=r.flatMap two++[0,0]
def a6e (sh back:Bool)(es:List El)(ks:List Nat):List UInt8:=ks.flatMap fun k=>awp (lev sh back k es)
def aq4 (s:Nat)(sh back:Bool)(es:List El):List UInt8:=a6e sh back es (List.range s)
def arw:List Int→List Int→Int
 | [],[]=>0
 | [],_::_=> -1
 | _::_,[]=>1
 | x::a,y::b=>if x<y then -1 else if y<x then 1 else arw a b
def amx (sh back:Bool)(a b:List El):List Nat→Int
 | []=>0
 | k::r=>if arw (lev sh back k a) (lev sh back k b)=0 then amx sh back a b r else arw (lev sh back k a) (lev sh back k b)
def afh (s:Int)(sh:Bool):Bool:=decide (1≤s)&&decide (s≤if sh then 4 else 3)
def av6 (e:El):Prop:=(0≤e.pr∧e.pr≤65535)∧(0≤e.se∧e.se≤65535)∧(0≤e.te∧e.te≤65535)
theorem a5a {e:El}(h:av6 e)(k:Nat)(wd:Bool):0≤wgt k e wd∧wgt k e wd≤65535:=by
 obtain⟨h1,h2,h3⟩:=h
 unfold wgt
 split<;>(repeat' split)<;>omega
theorem a5e (sh:Bool)(k:Nat): ∀(es:List El) (wd:Bool),(∀e∈es,av6 e)→ ∀n∈lvl sh k wd es,1≤n∧n≤65535:=by
 intro es
 induction es with
 | nil=>intro wd _ n hn;cases hn
 | cons e r ih=>
  intro wd h n hn
  have h1:=a5a (h e (List.mem_cons_self ..)) k (auu sh wd e)
  have h2:=ih (auu sh wd e) (fun x hx=>h x (List.mem_cons_of_mem _ hx))
  unfold lvl at hn
  split at hn
  ·exact h2 n hn
  ·rename_i hz
   rcases List.mem_cons.1 hn with rfl | hn
   ·omega
   ·exact h2 n hn
theorem atm (sh:Bool)(k:Nat): ∀(es:List El) (wd:Bool),(lvl sh k wd es).length≤es.length:=by
 intro es
 induction es with
 | nil=>intro wd;simp[lvl]
 | cons e r ih=>
  intro wd
  have:=ih (auu sh wd e)
  unfold lvl
  split<;>simp<;>omega
theorem a7r {sh back:Bool}{k:Nat}{es:List El}(h: ∀e∈es,av6 e): ∀n∈lev sh back k es,1≤n∧n≤65535:=by
 intro n hn
 unfold lev at hn
 split at hn
 ·exact a5e sh k es false h n (List.mem_reverse.1 hn)
 ·exact a5e sh k es false h n hn
theorem att (sh back:Bool)(k:Nat)(es:List El):(lev sh back k es).length≤es.length:=by
 unfold lev
 split
 ·rw[List.length_reverse];exact atm _ _ _ _
 ·exact atm _ _ _ _
theorem a2q (r:List Int):(awp r).length=2*r.length+2:=by
 have h: ∀r:List Int,(r.flatMap two).length=2*r.length:=by
  intro r
  induction r with
  | nil=>rfl
  | cons x t ih=>rw[List.flatMap_cons,List.length_append,ih];simp[two];omega
 unfold awp
 rw[List.length_append,h]
 try rfl
theorem az4 (sh back:Bool)(es:List El)(k:Nat)(ks:List Nat):a6e sh back es (k::ks)=awp (lev sh back k es)++a6e sh back es ks:=rfl
end Go.Proofs.YtfhpgmlfgjfknaaGreatDoor
namespace Go.Proofs.YtfhpgmlfgjfknaaGreatDoor
open Go.RowKit Go.Vf Go.Maps
abbrev ax8 (s:Int)(sh back:Bool):Value:=.agg #[.int .i64 s,.bool sh,.bool back]
theorem axk (s:ByteArray)(w:World):Calls Tryz.prog 30 #[.string s] w fun e w'=>e=.returned (.bool (decide (65536<s.size)))∧w=w':=by
 have h:decide ((65536:Int)<(s.size:Int))=decide (65536<s.size):=by
  rw[decide_eq_decide];omega
 go_enter Tryz.func30,Tryz.ntmps30
 go_wp2
 go_ret
 exact⟨by first | rfl | rw[h] | simp[h],rfl⟩
set_option maxHeartbeats 1000000 in
theorem arv (s:Int)(sh back:Bool)(w:World)(_hs:InI s):Calls Tryz.prog 57 #[ax8 s sh back] w fun e w'=>e=.returned (.bool (afh s sh))∧Below w.heap.size w w':=by
 have hb0:=(Below.refl w.heap.size w).alloc (Nat.le_refl _) (.cells #[.int .i64 s,.bool sh,.bool back] 25)
 have hn0:=Blk.new w 25 #[.int .i64 s,.bool sh,.bool back]
 have c0:(w.alloc (.cells #[.int .i64 s,.bool sh,.bool back] 25)).cell? ⟨w.heap.size,0,none⟩=some (.int .i64 s):=hn0.cell 0
 have c1:(w.alloc (.cells #[.int .i64 s,.bool sh,.bool back] 25)).cell? ⟨w.heap.size,1,none⟩=some (.bool sh):=hn0.cell 1
 cases sh
 ·by_cases h1:1≤s
  ·have hd:afh s false=decide (s≤3):=by unfold afh;rw[decide_eq_true h1];try rfl
   rw[hd]
   go_enter Tryz.func57,Tryz.ntmps57
   go_wp2
   go_ret
   exact⟨by first | rfl | simp,hb0⟩
  ·have hd:afh s false=false:=by unfold afh;rw[decide_eq_false h1];try rfl
   rw[hd]
   go_enter Tryz.func57,Tryz.ntmps57
   go_wp2
   go_ret
   exact⟨by first | rfl | simp,hb0⟩
 ·by_cases h1:1≤s
  ·have hd:afh s true=decide (s≤4):=by unfold afh;rw[decide_eq_true h1];try rfl
   rw[hd]
   go_enter Tryz.func57,Tryz.ntmps57
   go_wp2
   go_ret
   exact⟨by first | rfl | simp,hb0⟩
  ·have hd:afh s true=false:=by unfold afh;rw[decide_eq_false h1];try rfl
   rw[hd]
   go_enter Tryz.func57,Tryz.ntmps57
   go_wp2
   go_ret
   exact⟨by first | rfl | simp,hb0⟩
theorem as2 (e:El)(wd:Bool)(w:World):Calls Tryz.prog 59 #[elA e,.bool wd] w fun r w'=>r=.returned (.int .i64 (wgt 0 e wd))∧Below w.heap.size w w':=by
 obtain⟨va,pr,se,te⟩:=e
 have hb0:=(Below.refl w.heap.size w).alloc (Nat.le_refl _) (.cells #[.bool va,.int .i64 pr,.int .i64 se,.int .i64 te] 131)
 have c1:(w.alloc (.cells #[.bool va,.int .i64 pr,.int .i64 se,.int .i64 te] 131)).cell? ⟨w.heap.size,1,none⟩=some (.int .i64 pr):=(Blk.new w 131 _).cell 1
 cases wd
 ·go_enter Tryz.func59,Tryz.ntmps59
  go_wp2
  go_ret
  exact⟨rfl,hb0⟩
 ·go_enter Tryz.func59,Tryz.ntmps59
  go_wp2
  go_ret
  exact⟨rfl,hb0⟩
theorem aow (e:El)(wd:Bool)(w:World):Calls Tryz.prog 60 #[elA e,.bool wd] w fun r w'=>r=.returned (.int .i64 (wgt 1 e wd))∧Below w.heap.size w w':=by
 obtain⟨va,pr,se,te⟩:=e
 have hb0:=(Below.refl w.heap.size w).alloc (Nat.le_refl _) (.cells #[.bool va,.int .i64 pr,.int .i64 se,.int .i64 te] 131)
 have c1:(w.alloc (.cells #[.bool va,.int .i64 pr,.int .i64 se,.int .i64 te] 131)).cell? ⟨w.heap.size,2,none⟩=some (.int .i64 se):=(Blk.new w 131 _).cell 2
 cases wd
 ·go_enter Tryz.func60,Tryz.ntmps60
  go_wp2
  go_ret
  exact⟨rfl,hb0⟩
 ·go_enter Tryz.func60,Tryz.ntmps60
  go_wp2
  go_ret
  exact⟨rfl,hb0⟩
theorem ap4 (e:El)(wd:Bool)(w:World):Calls Tryz.prog 61 #[elA e,.bool wd] w fun r w'=>r=.returned (.int .i64 (wgt 2 e wd))∧Below w.heap.size w w':=by
 obtain⟨va,pr,se,te⟩:=e
 have hb0:=(Below.refl w.heap.size w).alloc (Nat.le_refl _) (.cells #[.bool va,.int .i64 pr,.int .i64 se,.int .i64 te] 131)
 have c1:(w.alloc (.cells #[.bool va,.int .i64 pr,.int .i64 se,.int .i64 te] 131)).cell? ⟨w.heap.size,3,none⟩=some (.int .i64 te):=(Blk.new w 131 _).cell 3
 cases wd
 ·go_enter Tryz.func61,Tryz.ntmps61
  go_wp2
  go_ret
  exact⟨rfl,hb0⟩
 ·go_enter Tryz.func61,Tryz.ntmps61
  go_wp2
  go_ret
  exact⟨rfl,hb0⟩
theorem a8b (e f:El)(w:World):(Op.equalIn 10000 131 (elA e) (elA f)).run Tryz.prog w=.ok (decide (e=f)) w:=by
 obtain⟨e1,e2,e3,e4⟩:=e
 obtain⟨f1,f2,f3,f4⟩:=f
 have h: ∀d,(Op.equalIn (d+1+1) 131 (elA ⟨e1,e2,e3,e4⟩) (elA ⟨f1,f2,f3,f4⟩)).run Tryz.prog w=.ok (decide ((⟨e1,e2,e3,e4⟩:El)=⟨f1,f2,f3,f4⟩)) w:=fun d=>by
  simp[go_sem,El.mk.injEq]
  by_cases h1:e1=f1<;>by_cases h2:e2=f2<;>by_cases h3:e3=f3<;>by_cases h4:e4=f4<;>simp[h1,h2,h3,h4]
 exact h 9998
set_option maxHeartbeats 1000000 in
theorem axo (e:El)(wd:Bool)(w:World):Calls Tryz.prog 62 #[elA e,.bool wd] w fun r w'=>r=.returned (.int .i64 (wgt 3 e wd))∧Below w.heap.size w w':=by
 obtain⟨va,pr,se,te⟩:=e
 have hb0:=(Below.refl w.heap.size w).alloc (Nat.le_refl _) (.cells #[.bool va,.int .i64 pr,.int .i64 se,.int .i64 te] 131)
 have hB:=Blk.new w 131 #[.bool va,.int .i64 pr,.int .i64 se,.int .i64 te]
 have c0:(w.alloc (.cells #[.bool va,.int .i64 pr,.int .i64 se,.int .i64 te] 131)).cell? ⟨w.heap.size,0,none⟩=some (.bool va):=hB.cell 0
 have c1:(w.alloc (.cells #[.bool va,.int .i64 pr,.int .i64 se,.int .i64 te] 131)).cell? ⟨w.heap.size,1,none⟩=some (.int .i64 pr):=hB.cell 1
 have c2:(w.alloc (.cells #[.bool va,.int .i64 pr,.int .i64 se,.int .i64 te] 131)).cell? ⟨w.heap.size,2,none⟩=some (.int .i64 se):=hB.cell 2
 have c3:(w.alloc (.cells #[.bool va,.int .i64 pr,.int .i64 se,.int .i64 te] 131)).cell? ⟨w.heap.size,3,none⟩=some (.int .i64 te):=hB.cell 3
 cases va
 ·cases wd
  ·have heq:=fun w=>a8b ⟨false,pr,se,te⟩ ⟨false,0,0,0⟩ w
   have hw:wgt 3 ⟨false,pr,se,te⟩ false=if (decide ((⟨false,pr,se,te⟩:El)=⟨false,0,0,0⟩))=true then 0 else 65535:=rfl
   rw[hw]
   cases hq:decide ((⟨false,pr,se,te⟩:El)=⟨false,0,0,0⟩) with
   | true=>
    rw[hq] at heq
    go_enter Tryz.func62,Tryz.ntmps62
    go_wp2
    go_ret
    exact⟨rfl,hb0⟩
   | false=>
    rw[hq] at heq
    go_enter Tryz.func62,Tryz.ntmps62
    go_wp2
    go_ret
    exact⟨rfl,hb0⟩
  ·go_enter Tryz.func62,Tryz.ntmps62
   go_wp2
   go_ret
   exact⟨rfl,hb0⟩
 ·go_enter Tryz.func62,Tryz.ntmps62
  go_wp2
  go_ret
  exact⟨rfl,hb0⟩
theorem a5g:(Tryz.prog.info? 84).map (fun i=>(i.zero,i.size,i.bytes))=some (some (.int .u16 0),1,2):=by kernel_rfl
def UOwn (w:World)(base:Nat)(v:Value)(zs:List Int):Prop:=w.ownsRow base 84 1 v zs.length (zs.map (Value.int .u16))
structure WRow (w:World)(g:Nat)(l:List Int):Prop where
 cell: ∀j (hj:j<l.length),w.cell? ⟨g,j,none⟩=some (.int .u16 (l[j]'hj))
 free: ∀j,j<l.length→w.frozen? ⟨g,j,none⟩=false
theorem UOwn.form {w:World}{base:Nat}{v:Value}{zs:List Int}(h:UOwn w base v zs):
  (v=.slice none 0 0∧zs=[])∨ ∃g cap,v=.slice (some ⟨g,0,none⟩) zs.length cap∧base≤g∧g<w.heap.size∧zs.length≤cap∧WRow w g zs:=by
 obtain⟨h1,h2⟩:=h
 rcases h2 with ⟨rfl,hn⟩ | ⟨g,cap,cur,rfl,hb,hh,hc1,hc2,hc3,hc4⟩
 ·exact .inl ⟨rfl,List.eq_nil_of_length_eq_zero hn⟩
 ·refine .inr ⟨g,cap,rfl,hb,(Array.getElem?_eq_some_iff.1 hh).1,hc1,fun j hj=> ?_,fun j _=> ?_⟩
  ·have hx:(zs.map (Value.int .u16))[j]? =some (.int .u16 zs[j]):=by simp[hj]
   rw[←hc4,List.getElem?_take_of_lt (by omega)] at hx
   simp only[World.cell?,hh]
   simpa using hx
  ·simp[World.frozen?,hh]
def Uns (w:World)(v:Value)(zs:List Int):Prop:= ∃a cap,v=.slice a zs.length cap∧ ∀j (hj:j<zs.length),∃b,a=some ⟨b,0,none⟩∧b<w.heap.size∧w.cell? ⟨b,j,none⟩=some (.int .u16 (zs[j]'hj))
theorem UOwn.uns {w:World}{base:Nat}{v:Value}{zs:List Int}(h:UOwn w base v zs):Uns w v zs:=by
 rcases h.form with ⟨rfl,rfl⟩ | ⟨g,cap,rfl,_,hg,_,hr⟩
 ·exact⟨_,_,rfl,fun j hj=>absurd hj (by simp)⟩
 ·exact⟨_,_,rfl,fun j hj=>⟨g,rfl,hg,hr.cell j hj⟩⟩
theorem Uns.below {w w':World}{v:Value}{zs:List Int}(h:Uns w v zs)(hb:Below w.heap.size w w'):Uns w' v zs:=by
 obtain⟨a,cap,e,hc⟩:=h
 refine⟨a,cap,e,fun j hj=> ?_⟩
 obtain⟨b,e1,e2,e3⟩:=hc j hj
 exact⟨b,e1,Nat.lt_of_lt_of_le e2 hb.size,(hb.cell (p:=⟨b,j,none⟩) e2).trans e3⟩
def RevI (l r:List Int)(k:Nat):Prop:=
 ∃h:r.length=l.length,∀i (hi:i<l.length),r[i]'(by omega)=if i<k∨l.length≤i+k then l[l.length-1-i]'(by omega) else l[i]
theorem RevI.zero (l:List Int):RevI l l 0:=⟨rfl,fun i hi=>by simp;omega⟩
theorem RevI.step {l r:List Int}{k:Nat}(h:RevI l r k)(hk:k+k+1<l.length):
  RevI l ((r.set k (l[l.length-1-k]'(by omega))).set (l.length-1-k) (l[k]'(by omega))) (k+1):=by
 obtain⟨hlen,hr⟩:=h
 refine⟨by simpa using hlen,fun i hi=> ?_⟩
 rw[List.getElem_set,List.getElem_set]
 by_cases h1:l.length-1-k=i
 ·subst h1
  simp only[if_true]
  rw[if_pos (by omega)]
  congr 1
  omega
 ·rw[if_neg h1]
  by_cases h2:k=i
  ·subst h2
   simp
  ·rw[if_neg h2,hr i hi]
   by_cases h3:i<k∨l.length≤i+k
   ·rw[if_pos h3,if_pos (by omega)]
   ·rw[if_neg h3,if_neg (by omega)]
theorem RevI.get_lo {l r:List Int}{k:Nat}(h:RevI l r k)(hk:k+k+1<l.length)(h':k<r.length):r[k]=l[k]'(by omega):=by
 rw[h.2 k (by omega),if_neg (by omega)]
theorem RevI.get_hi {l r:List Int}{k:Nat}(h:RevI l r k)(hk:k+k+1<l.length)(h':l.length-1-k<r.length):r[l.length-1-k]=l[l.length-1-k]'(by omega):=by
 rw[h.2 _ (by omega),if_neg (by omega)]
theorem RevI.swap {l r:List Int}{k j:Nat}(h:RevI l r k)(hj:j+k+1=l.length)(hkj:k<j):
  ∃x y,(∃h:k<r.length,r[k]=x)∧(∃h:j<r.length,r[j]=y)∧RevI l ((r.set k y).set j x) (k+1):=by
 obtain rfl:j=l.length-1-k:=by omega
 have hl:=h.1
 exact⟨_,_,⟨by omega,h.get_lo (by omega) (by omega)⟩,⟨by omega,h.get_hi (by omega) (by omega)⟩,h.step (by omega)⟩
theorem RevI.done {l r:List Int}{k:Nat}(h:RevI l r k)(hk:l.length≤k+k+1):r=l.reverse:=by
 obtain⟨hlen,hr⟩:=h
 refine List.ext_getElem (by simpa using hlen) fun i h1 h2=> ?_
 rw[hr i (by omega),List.getElem_reverse]
 by_cases h3:i<k∨l.length≤i+k
 ·rw[if_pos h3]
 ·rw[if_neg h3]
  congr 1
  omega
theorem UOwn.set {w:World}{base g len cap:Nat}{zs:List Int}(h:UOwn w base (.slice (some ⟨g,0,none⟩) len cap) zs)(k:Nat)(x:Int):UOwn (w.setCell ⟨g,k,none⟩ (.int .u16 x)) base (.slice (some ⟨g,0,none⟩) len cap) (zs.set k x):=by
 obtain⟨h1,h2⟩:=h
 refine⟨by simp,?_⟩
 rcases h2 with ⟨e,_⟩ | ⟨g',cap',cur,e,hb,hh,hc1,hc2,hc3,hc4⟩
 ·cases e
 ·cases e
  have hB:Blk w g 84 cur:=hh
  refine .inr ⟨g,cap,cur.setIfInBounds k (.int .u16 x),by simp,hb,hB.set k (.int .u16 x),by simpa using hc1,hc2,by simp[hc3],?_⟩
  rw[Array.toList_setIfInBounds,List.length_set,List.take_set,hc4]
  simp[List.map_set]
theorem UOwn.drew {w:World}{base:Nat}{v:Value}{zs:List Int}(h:UOwn w base v zs):UOwn w.drew base v zs:=h
set_option maxHeartbeats 1000000 in
theorem asv (base g n cap:Nat)(l:List Int)(hl:l.length=n)(hn:n≤1099511627776)(w:World)(hr:UOwn w base (.slice (some ⟨g,0,none⟩) n cap) l)(hg:base≤g):
  Calls Tryz.prog 63 #[.slice (some ⟨g,0,none⟩) n cap] w fun e w'=>e=.returned (.tuple #[])∧UOwn w' base (.slice (some ⟨g,0,none⟩) n cap) l.reverse∧Below base w w':=by
 subst hl
 go_enter Tryz.func63,Tryz.ntmps63
 go_wp2
 go_loopw [2,3] (fun i j wr=> ∃(k:Nat) (r:List Int),k≤l.length∧i=.int .i64 k∧j=.int .i64 ((l.length:Int)-1-(k:Int))∧RevI l r k∧UOwn wr base (.slice (some ⟨g,0,none⟩) l.length cap) r∧Below base w wr) (fun i _ _=>l.length-(intOf i).toNat)
 case atStart=>exact⟨0,l,Nat.zero_le _,rfl,by go_num,RevI.zero l,hr,Below.refl _ _⟩
 case round=>
  obtain⟨k,r,hk,rfl,rfl,hrev,hrow,hbel⟩:=hrel
  have hrl:r.length=l.length:=hrev.1
  by_cases hlt:k+k+1<l.length
  ·obtain⟨j,hj⟩: ∃j,j+k+1=l.length:=⟨l.length-1-k,by omega⟩
   have ej:((l.length:Int)-1-(k:Int))=(j:Int):=by omega
   obtain⟨x,y,⟨hk1,hx⟩,⟨hj1,hy⟩,hst⟩:=hrev.swap hj (by omega)
   have hur:WRow wr g r:=by
    rcases hrow.form with ⟨e,_⟩ | ⟨g',cap',e,_,_,_,h⟩
    ·cases e
    ·cases (Value.slice.inj e).1;exact h
   have c1:=hur.cell k hk1
   have c2:=hur.cell j hj1
   rw[hx] at c1
   rw[hy] at c2
   have f1:=hur.free k hk1
   have f2:=hur.free j hj1
   have hrow2:=(hrow.set k y).set j x
   have hbel2:=(hbel.setCell (p:=⟨g,k,none⟩) hg (.int .u16 y)).setCell (p:=⟨g,j,none⟩) hg (.int .u16 x)
   rw[ej]
   have hkj:k<j:=by omega
   have hjl:j<l.length:=by omega
   clear hrow ej hx hy hrev hur
   go_wp2
   go_region
   go_wp2
   go_roundw
   case rel=>exact⟨k+1,_,by omega,by go_num,by go_num,hst,hrow2.drew,hbel2.drew⟩
   case measure=>simp[intOf];omega
  ·go_wp2
   go_end0
   have:=hrev.done (by omega)
   subst this
   exact⟨rfl,hrow,hbel⟩
theorem af3 (x:Int)(w:World):Calls Tryz.prog 108 #[.int .u16 x] w fun e w'=>e=.returned (.bool false)∧w=w':=by
 go_enter Tryz.func108,Tryz.ntmps108
 go_wp2
 go_ret
 exact⟨by simp,rfl⟩
set_option maxHeartbeats 1000000 in
theorem aui (x y:Int)(w:World):Calls Tryz.prog 64 #[.int .u16 x,.int .u16 y] w fun e w'=>e=.returned (.int .i64 (if x<y then -1 else if y<x then 1 else 0))∧w=w':=by
 by_cases h1:x<y
 ·rw[if_pos h1]
  go_enter Tryz.func64,Tryz.ntmps64
  go_wp2_with fail
  refine(af3 x w).mono ?_
  rintro _ _ ⟨rfl,rfl⟩
  go_wp2_with fail
  refine(af3 y w).mono ?_
  rintro _ _ ⟨rfl,rfl⟩
  go_wp2
  go_ret
  exact⟨rfl,rfl⟩
 ·rw[if_neg h1]
  by_cases h2:y<x
  ·rw[if_pos h2]
   go_enter Tryz.func64,Tryz.ntmps64
   go_wp2_with fail
   refine(af3 x w).mono ?_
   rintro _ _ ⟨rfl,rfl⟩
   go_wp2_with fail
   refine(af3 y w).mono ?_
   rintro _ _ ⟨rfl,rfl⟩
   go_wp2
   go_ret
   exact⟨rfl,rfl⟩
  ·rw[if_neg h2]
   go_enter Tryz.func64,Tryz.ntmps64
   go_wp2_with fail
   refine(af3 x w).mono ?_
   rintro _ _ ⟨rfl,rfl⟩
   go_wp2_with fail
   refine(af3 y w).mono ?_
   rintro _ _ ⟨rfl,rfl⟩
   go_wp2
   go_ret
   exact⟨rfl,rfl⟩
set_option maxHeartbeats 2000000 in
set_option maxRecDepth 20000 in
theorem a4t (va vb:Value)(a b:List Int)(w:World)(ha:Uns w va a)(hb:Uns w vb b)(hla:a.length≤4611686018427387904)(hlb:b.length≤4611686018427387904):
  Calls Tryz.prog 29 #[va,vb] w fun e w'=>e=.returned (.int .i64 (arw a b))∧w=w':=by
 obtain⟨aa,ca,rfl,ha⟩:=ha
 obtain⟨ab,cb,rfl,hb⟩:=hb
 generalize hR:arw a b=R
 have HR:Hid (arw (a.drop 0) (b.drop 0)=R):=hR
 clear hR
 go_enter Tryz.func29,Tryz.ntmps29
 go_wp2_with fail
 go_loopw [11] (fun i wr=> ∃k:Nat,k≤a.length∧k≤b.length∧i=.int .i64 k∧Hid (arw (a.drop k) (b.drop k)=R)∧wr=w) (fun i _=>a.length-(intOf i).toNat)
 case atStart=>exact⟨0,by omega,by omega,rfl,HR,rfl⟩
 case round=>
  clear HR
  obtain⟨k,hk,hkb,rfl,HK,rfl⟩:=hrel
  by_cases hlt:k<a.length
  ·obtain⟨b1,rfl,_,x1⟩:=ha k hlt
   have hd1:a.drop k=a[k]::a.drop (k+1):=List.drop_eq_getElem_cons hlt
   by_cases hltb:k<b.length
   ·obtain⟨b2,rfl,_,x2⟩:=hb k hltb
    have hd2:b.drop k=b[k]::b.drop (k+1):=List.drop_eq_getElem_cons hltb
    have hKK:=HK.out
    rw[hd1,hd2] at hKK
    have hc:=aui a[k] b[k] wr
    generalize a[k]=x at x1 hKK hc
    generalize b[k]=y at x2 hKK hc
    unfold arw at hKK
    clear HK hd1 hd2
    by_cases h1:x<y
    ·rw[if_pos h1] at hKK hc
     have HRn:Hid (R= -1):=hKK.symm
     clear hKK h1
     go_wp2_with fail
     refine hc.mono ?_
     rintro _ w1 ⟨rfl,rfl⟩
     go_wp2
     go_ret
     exact⟨by rw[HRn.out];rfl,rfl⟩
    ·rw[if_neg h1] at hKK hc
     by_cases h2:y<x
     ·rw[if_pos h2] at hKK hc
      have HRn:Hid (R=1):=hKK.symm
      clear hKK h1 h2
      go_wp2_with fail
      refine hc.mono ?_
      rintro _ w1 ⟨rfl,rfl⟩
      go_wp2
      go_ret
      exact⟨by rw[HRn.out];rfl,rfl⟩
     ·rw[if_neg h2] at hKK hc
      have HK2:Hid (arw (a.drop (k+1)) (b.drop (k+1))=R):=hKK
      clear hKK h1 h2
      go_wp2_with fail
      refine hc.mono ?_
      rintro _ w1 ⟨rfl,rfl⟩
      go_wp2
      go_roundw
      case rel=>exact⟨k+1,by omega,by omega,by simp,HK2,by first | rfl | trivial⟩
      case measure=>simp only[intOf];omega
   ·have hR1:R=1:=by
     rw[←HK.out,hd1,show b.drop k=[] from List.drop_of_length_le (by omega)]
     try rfl
    clear HK hd1
    go_wp2_with fail
    go_ret
    exact⟨by first | rfl | (rw[hR1];rfl),rfl⟩
  ·have hR1:R=if a.length<b.length then -1 else 0:=by
    rw[←HK.out,show a.drop k=[] from List.drop_of_length_le (by omega)]
    split
    ·have hltb:k<b.length:=by omega
     rw[List.drop_eq_getElem_cons hltb]
     try rfl
    ·rw[List.drop_of_length_le (by omega)]
     try rfl
   clear HK
   by_cases h3:a.length<b.length
   ·rw[if_pos h3] at hR1
    have h3':((a.length:Int)<(b.length:Int)):=by omega
    go_wp2_with fail
    go_ret
    exact⟨by first | rfl | (rw[hR1];rfl),rfl⟩
   ·rw[if_neg h3] at hR1
    have h3': ¬((a.length:Int)<(b.length:Int)):=by omega
    go_wp2_with fail
    go_ret
    exact⟨by first | rfl | (rw[hR1];rfl),rfl⟩
abbrev lvA (K:Nat)(sh back:Bool):Value:=.agg #[.func (.func K) #[] #[],.bool sh,.bool back]
theorem adq {w:World}{ops:Array Oper}{rest:List Oper}{o:Oper}{a:Act}{Q:Exit→Act→World→Prop}(hgd:o.guard=none)(s x:Operand)
  (ho:o.op=.call {callee:=.builtin .append,args:= #[s,x],argTypes:= #[81,81]})
  (base:Nat) (v:Value) (acc:List Int) (hs:a.eval s=v) (hown:UOwn w base v acc) (n:Int) (c:Nat) (hx:a.eval x=.slice (some ⟨w.heap.size,0,none⟩) 1 c)
  (hlen:acc.length≤1000000000000) (hbase:base≤w.heap.size)
  (h: ∀g' c' w',UOwn w' base (.slice (some ⟨g',0,none⟩) (acc++[n]).length c') (acc++[n])→Below base w w'→wpList Tryz.prog ops Q rest (a.put o.dst (.slice (some ⟨g',0,none⟩) (acc++[n]).length c')) w'):
  wpList Tryz.prog ops Q (o::rest) a (w.alloc (.cells #[.int .u16 n] 84)):=by
 obtain⟨i,hi,hz,hsz,hby⟩:=info_parts a5g
 have hown':(w.alloc (.cells #[.int .u16 n] 84)).ownsRow base 84 1 v acc.length (acc.map (Value.int .u16)):=World.ownsRow.alloc hown _
 refine wpList_append_own (P:=Tryz.prog) _ hgd s x 81 ho base 84 i (.int .u16 0) 1 2 Tryz.underlying81 hi hz hsz hby rfl (by decide) v acc.length (acc.map (Value.int .u16)) hs hown' ⟨w.heap.size,0,none⟩ 1 c [.int .u16 n] hx rfl ?_ ?_ ?_ ?_ ?_ ?_
 ·intro j u hj
  match j,hj with
  | 0,hj=>simp at hj;subst hj;simp[Addr.add]
 ·intro u hu;simp at hu;subst hu;rfl
 ·unfold maxLen;omega
 ·omega
 ·simp;omega
 ·intro v' w' h1 h2 _
  have h3:UOwn w' base v' (acc++[n]):=by
   unfold UOwn
   rw[List.map_append,List.length_append]
   exact h1
  have hb:Below base w w':=((Below.refl base w).alloc hbase _).grown h2 (by simp;omega) (fun k hk=>(World.ownsRow.lt hown' k hk).1)
  rcases h3.form with ⟨_,e⟩ | ⟨g',c',rfl,_⟩
  ·simp at e
  ·exact h g' c' w' h3 hb
set_option maxHeartbeats 4000000 in
set_option maxRecDepth 20000 in
theorem af8 (K k:Nat)(eg: ∀args w,(callFunc K args).run Tryz.prog w=.ok (.enter K args) w)(hcall: ∀(e:El) (wd:Bool) (W:World),Calls Tryz.prog K #[elA e,.bool wd] W fun r w'=>r=.returned (.int .i64 (wgt k e wd))∧Below W.heap.size W w')
  (sh back:Bool) {es:List El} (hE: ∀e∈es,av6 e) {n0:Nat} {v:Value} {w:World} (hv:Els n0 w v es) (hn0:n0≤w.heap.size) (hl:es.length≤1000000000000):
  Calls Tryz.prog 28 #[lvA K sh back,v] w fun r w'=> ∃u,r=.returned u∧UOwn w' w.heap.size u (if back=true then (lvl sh k false es).reverse else lvl sh k false es)∧Below w.heap.size w w':=by
 obtain⟨va,vc,rfl⟩:=hv.val
 obtain⟨i0,hi,hz0,hz1,hz2⟩:=info_parts a5g
 have hb0:=(Below.refl w.heap.size w).alloc (Nat.le_refl _) (.cells #[.func (.func K) #[] #[],.bool sh,.bool back] 79)
 have hB0:=Blk.new w 79 #[.func (.func K) #[] #[],.bool sh,.bool back]
 have hs0:Hid ((w.alloc (.cells #[.func (.func K) #[] #[],.bool sh,.bool back] 79)).heap.size=w.heap.size+1):=by show _=_;simp
 have hv0:=hv.below hb0 hn0
 have hlR:=atm sh k es false
 generalize hR:lvl sh k false es=R at hlR⊢
 have HR:Hid ([]++lvl sh k false (es.drop 0)=R):=by show _=_;simpa using hR
 clear hR
 go_enter Tryz.func28,Tryz.ntmps28
 go_upto_region 1 with fail
 generalize w.alloc (.cells #[.func (.func K) #[] #[],.bool sh,.bool back] 79)=w1 at*
 have hmk:i0.bytes*es.length≤281474976710656:=by rw[hz2];omega
 have hml:es.length≤maxLen:=by unfold maxLen;omega
 go_wp2_with (first | (refine wpList_make_own _ rfl _ _ 81 rfl w1.heap.size 84 i0 (.int .u16 0) 1 Tryz.underlying81 hi hz0 hz1 .i64 .i64 _ es.length rfl rfl rfl hmk hml (Nat.le_refl _) ?_;intro w2 hown2 hg2))
 have hb2:Below w1.heap.size w1 w2:=(Below.refl _ w1).grown hg2 (Nat.le_refl _) (fun j hj=>by cases hj)
 have HU:Aside (UOwn w2 w1.heap.size (.slice (some ⟨w1.heap.size,0,none⟩) 0 es.length) []):=hown2
 clear hown2 hg2
 go_loopw [5,6,15] (fun rv wv iv wr=> ∃(i:Nat) (acc:List Int) (wd:Bool),i≤es.length∧iv=.int .i64 i∧wv=.bool wd∧Aside (UOwn wr w1.heap.size rv acc)∧Hid (acc++lvl sh k wd (es.drop i)=R)∧Hid (acc.length≤i∧ ∃g c,rv=.slice (some ⟨g,0,none⟩) acc.length c)∧Below w1.heap.size w1 wr) (fun _ _ iv _=>es.length-(intOf iv).toNat)
 case atStart=>exact⟨0,[],false,by omega,rfl,rfl,HU,HR,⟨by simp,_,_,rfl⟩,hb2⟩
 case round=>
  clear HR HU
  obtain⟨i,acc,wd,hi1,rfl,rfl,HU,HR,HA,hbr⟩:=hrel
  obtain⟨g,c,rfl⟩:=HA.out.2
  have l0:wr.cell? ⟨w.heap.size,0,none⟩=some (.func (.func K) #[] #[]):=(hbr.cell (p:=⟨w.heap.size,0,none⟩) (by have:=hs0.out;show w.heap.size<w1.heap.size;omega)).trans (hB0.cell 0)
  have l1:wr.cell? ⟨w.heap.size,1,none⟩=some (.bool sh):=(hbr.cell (p:=⟨w.heap.size,1,none⟩) (by have:=hs0.out;show w.heap.size<w1.heap.size;omega)).trans (hB0.cell 1)
  have l2:wr.cell? ⟨w.heap.size,2,none⟩=some (.bool back):=(hbr.cell (p:=⟨w.heap.size,2,none⟩) (by have:=hs0.out;show w.heap.size<w1.heap.size;omega)).trans (hB0.cell 2)
  by_cases hlt:i<es.length
  ·obtain⟨b,off,rfl,hbl,x0,x1,x2,x3⟩: ∃b off,va=some ⟨b,off,none⟩∧b<w.heap.size∧wr.cell? ⟨b,off+i*4,none⟩=some (.bool es[i].va)∧wr.cell? ⟨b,off+i*4+1,none⟩=some (.int .i64 es[i].pr)∧wr.cell? ⟨b,off+i*4+2,none⟩=some (.int .i64 es[i].se)∧wr.cell? ⟨b,off+i*4+3,none⟩=some (.int .i64 es[i].te):=by
    rcases hv0 with ⟨_,_,_,e⟩ | ⟨b,off,c',e,hb,hc⟩
    ·rw[e] at hlt;simp at hlt
    ·cases e
     obtain⟨y0,y1,y2,y3⟩:=hc i hlt
     have hbw:b<w1.heap.size:=by have:=hs0.out;omega
     exact⟨b,off,rfl,by omega,(hbr.cell (p:=⟨b,_,none⟩) hbw).trans y0,(hbr.cell (p:=⟨b,_,none⟩) hbw).trans y1,(hbr.cell (p:=⟨b,_,none⟩) hbw).trans y2,(hbr.cell (p:=⟨b,_,none⟩) hbw).trans y3⟩
   have hdr:es.drop i=es[i]::es.drop (i+1):=List.drop_eq_getElem_cons hlt
   have hwo:=a5a (hE _ (List.getElem_mem hlt)) k (auu sh wd es[i])
   have hcl:=hcall es[i]
   have HRR:=HR.out
   rw[hdr] at HRR
   have HRQ:Hid (acc++(if wgt k es[i] (auu sh wd es[i])=0 then lvl sh k (auu sh wd es[i]) (es.drop (i+1)) else wgt k es[i] (auu sh wd es[i])::lvl sh k (auu sh wd es[i]) (es.drop (i+1)))=R):=HRR
   clear HRR
   have hqw:auu sh wd es[i]=if es[i].pr=0 then wd else sh&&es[i].va:=rfl
   generalize auu sh wd es[i]=q at HRQ hwo hqw
   generalize es[i]=e at*
   clear HR hdr
   have hb3:=(Below.refl wr.heap.size wr).alloc (Nat.le_refl _) (.cells #[.bool e.va,.int .i64 e.pr,.int .i64 e.se,.int .i64 e.te] 131)
   have hB3:=Blk.new wr 131 #[.bool e.va,.int .i64 e.pr,.int .i64 e.se,.int .i64 e.te]
   have hs3:Hid (wr.heap.size<(wr.alloc (.cells #[.bool e.va,.int .i64 e.pr,.int .i64 e.se,.int .i64 e.te] 131)).heap.size∧w.heap.size<wr.heap.size):=⟨by simp,by have:=hs0.out;have:=hbr.size;omega⟩
   go_upto_region 6 with fail
   generalize wr.alloc (.cells #[.bool e.va,.int .i64 e.pr,.int .i64 e.se,.int .i64 e.te] 131)=W3 at*
   have y0:W3.cell? ⟨wr.heap.size,0,none⟩=some (.bool e.va):=hB3.cell 0
   have y1:W3.cell? ⟨wr.heap.size,1,none⟩=some (.int .i64 e.pr):=hB3.cell 1
   have y2:W3.cell? ⟨wr.heap.size,2,none⟩=some (.int .i64 e.se):=hB3.cell 2
   have y3:W3.cell? ⟨wr.heap.size,3,none⟩=some (.int .i64 e.te):=hB3.cell 3
   have m0:=(hb3.cell (p:=⟨w.heap.size,0,none⟩) hs3.out.2).trans l0
   have m1:=(hb3.cell (p:=⟨w.heap.size,1,none⟩) hs3.out.2).trans l1
   have HU3:Aside (UOwn W3 w1.heap.size (.slice (some ⟨g,0,none⟩) acc.length c) acc):=aad HU.out hb3
   have hbr3:=hbr.trans (hb3.mono hbr.size)
   clear l0 l1 l2 x0 x1 x2 x3 hB3 HU hb3 hbr
   by_cases hp:e.pr=0
   ·have ht:(e.pr !=0)=false:=by simp[hp]
    rw[if_pos hp] at hqw
    subst hqw
    clear hp
    go_wp2_with fail
    refine(hcl _ W3).mono ?_
    rintro r w4 ⟨rfl,hb4⟩
    have HU4:Aside (UOwn w4 w1.heap.size (.slice (some ⟨g,0,none⟩) acc.length c) acc):=aad HU3.out hb4
    have hbr4:=hbr3.trans (hb4.mono hbr3.size)
    generalize wgt k e q=n at HRQ hwo
    clear HU3 hbr3 hb4 y0 y1 y2 y3 m0 m1 hs3
    by_cases hn:n=0
    ·have hnt:(n !=0)=false:=by simp[hn]
     have HR2:Hid (acc++lvl sh k q (es.drop (i+1))=R):=by show _=_;rw[←HRQ.out,if_pos hn]
     clear HRQ hn
     go_wp2_with fail
     go_roundw
     case rel=>exact⟨i+1,acc,q,by omega,by simp,rfl,HU4,HR2,⟨by have:=HA.out.1;omega,_,_,rfl⟩,hbr4⟩
     case measure=>simp only[intOf];omega
    ·have hnt:(n !=0)=true:=by simp[hn]
     have HR2:Hid ((acc++[n])++lvl sh k q (es.drop (i+1))=R):=by show _=_;rw[←HRQ.out,if_neg hn,List.append_assoc];rfl
     have hwrap:IntKind.u16.wrap n=n:=by rw[IntKind.wrap_u16];omega
     have hal:acc.length≤1000000000000:=by have:=HA.out.1;omega
     have hw1:w1.heap.size≤w4.heap.size:=hbr4.size
     clear HRQ hn
     go_wp2_with (first | (at_builtin;refine adq rfl _ _ rfl w1.heap.size _ acc rfl HU4.out n 1 rfl hal hw1 ?_;intro g5 c5 w5 hown5 hb5))
     have e5:(acc++[n]).length=acc.length+1:=by simp
     rw[e5] at hown5
     have HU5:Aside (UOwn w5 w1.heap.size (.slice (some ⟨g5,0,none⟩) (acc.length+1) c5) (acc++[n])):=hown5
     clear e5
     have hbr5:=hbr4.trans hb5
     clear hown5 HU4
     go_roundw
     case rel=>exact⟨i+1,acc++[n],q,by omega,by simp,rfl,HU5,HR2,⟨by have:=HA.out.1;simp;omega,_,_,by rw[List.length_append];rfl⟩,hbr5⟩
     case measure=>simp only[intOf];omega
   ·have ht:(e.pr !=0)=true:=by simp[hp]
    rw[if_neg hp] at hqw
    clear hp
    cases sh
    ·have hq0:q=false:=hqw
     subst hq0
     clear hqw
     go_wp2_with fail
     refine(hcl _ W3).mono ?_
     rintro r w4 ⟨rfl,hb4⟩
     have HU4:Aside (UOwn w4 w1.heap.size (.slice (some ⟨g,0,none⟩) acc.length c) acc):=aad HU3.out hb4
     have hbr4:=hbr3.trans (hb4.mono hbr3.size)
     generalize wgt k e false=n at HRQ hwo
     clear HU3 hbr3 hb4 y0 y1 y2 y3 m0 m1 hs3
     by_cases hn:n=0
     ·have hnt:(n !=0)=false:=by simp[hn]
      have HR2:Hid (acc++lvl false k false (es.drop (i+1))=R):=by show _=_;rw[←HRQ.out,if_pos hn]
      clear HRQ hn
      go_wp2_with fail
      go_roundw
      case rel=>exact⟨i+1,acc,false,by omega,by simp,rfl,HU4,HR2,⟨by have:=HA.out.1;omega,_,_,rfl⟩,hbr4⟩
      case measure=>simp only[intOf];omega
     ·have hnt:(n !=0)=true:=by simp[hn]
      have HR2:Hid ((acc++[n])++lvl false k false (es.drop (i+1))=R):=by show _=_;rw[←HRQ.out,if_neg hn,List.append_assoc];rfl
      have hwrap:IntKind.u16.wrap n=n:=by rw[IntKind.wrap_u16];omega
      have hal:acc.length≤1000000000000:=by have:=HA.out.1;omega
      have hw1:w1.heap.size≤w4.heap.size:=hbr4.size
      clear HRQ hn
      go_wp2_with (first | (at_builtin;refine adq rfl _ _ rfl w1.heap.size _ acc rfl HU4.out n 1 rfl hal hw1 ?_;intro g5 c5 w5 hown5 hb5))
      have e5:(acc++[n]).length=acc.length+1:=by simp
      rw[e5] at hown5
      have HU5:Aside (UOwn w5 w1.heap.size (.slice (some ⟨g5,0,none⟩) (acc.length+1) c5) (acc++[n])):=hown5
      clear e5
      have hbr5:=hbr4.trans hb5
      clear hown5 HU4
      go_roundw
      case rel=>exact⟨i+1,acc++[n],false,by omega,by simp,rfl,HU5,HR2,⟨by have:=HA.out.1;simp;omega,_,_,by rw[List.length_append];rfl⟩,hbr5⟩
      case measure=>simp only[intOf];omega
    ·have hq0:q=e.va:=hqw
     subst hq0
     clear hqw
     go_wp2_with fail
     refine(hcl _ W3).mono ?_
     rintro r w4 ⟨rfl,hb4⟩
     have HU4:Aside (UOwn w4 w1.heap.size (.slice (some ⟨g,0,none⟩) acc.length c) acc):=aad HU3.out hb4
     have hbr4:=hbr3.trans (hb4.mono hbr3.size)
     generalize wgt k e e.va=n at HRQ hwo
     clear HU3 hbr3 hb4 y0 y1 y2 y3 m0 m1 hs3
     by_cases hn:n=0
     ·have hnt:(n !=0)=false:=by simp[hn]
      have HR2:Hid (acc++lvl true k e.va (es.drop (i+1))=R):=by show _=_;rw[←HRQ.out,if_pos hn]
      clear HRQ hn
      go_wp2_with fail
      go_roundw
      case rel=>exact⟨i+1,acc,e.va,by omega,by simp,rfl,HU4,HR2,⟨by have:=HA.out.1;omega,_,_,rfl⟩,hbr4⟩
      case measure=>simp only[intOf];omega
     ·have hnt:(n !=0)=true:=by simp[hn]
      have HR2:Hid ((acc++[n])++lvl true k e.va (es.drop (i+1))=R):=by show _=_;rw[←HRQ.out,if_neg hn,List.append_assoc];rfl
      have hwrap:IntKind.u16.wrap n=n:=by rw[IntKind.wrap_u16];omega
      have hal:acc.length≤1000000000000:=by have:=HA.out.1;omega
      have hw1:w1.heap.size≤w4.heap.size:=hbr4.size
      clear HRQ hn
      go_wp2_with (first | (at_builtin;refine adq rfl _ _ rfl w1.heap.size _ acc rfl HU4.out n 1 rfl hal hw1 ?_;intro g5 c5 w5 hown5 hb5))
      have e5:(acc++[n]).length=acc.length+1:=by simp
      rw[e5] at hown5
      have HU5:Aside (UOwn w5 w1.heap.size (.slice (some ⟨g5,0,none⟩) (acc.length+1) c5) (acc++[n])):=hown5
      clear e5
      have hbr5:=hbr4.trans hb5
      clear hown5 HU4
      go_roundw
      case rel=>exact⟨i+1,acc++[n],e.va,by omega,by simp,rfl,HU5,HR2,⟨by have:=HA.out.1;simp;omega,_,_,by rw[List.length_append];rfl⟩,hbr5⟩
      case measure=>simp only[intOf];omega
  ·have hRR:R=acc:=by rw[←HR.out,List.drop_of_length_le (by omega)];simp[lvl]
   clear HR
   subst hRR
   have hwl:w.heap.size≤w1.heap.size:=hb0.size
   have hb01:=hb0.trans (hbr.mono hwl)
   cases back
   ·go_wp2_with fail
    go_ret
    exact⟨_,rfl,aai HU.out hwl,hb01⟩
   ·have hgw:w1.heap.size≤g:=by
     rcases HU.out.form with ⟨e,_⟩ | ⟨g',c',e,h,_⟩
     ·cases e
     ·cases (Value.slice.inj e).1;exact h
    go_wp2_with fail
    refine(asv w1.heap.size g R.length c R rfl (by omega) wr HU.out hgw).mono ?_
    rintro r w5 ⟨rfl,hown5,hb5⟩
    go_wp2_with fail
    go_ret
    exact⟨_,rfl,aai (show UOwn w5 w1.heap.size _ _ from hown5) hwl,hb01.trans (hb5.mono hwl)⟩
set_option maxRecDepth 100000 in
theorem ah3 (k:Nat)(hk:k<4)(sh back:Bool){es:List El}(hE: ∀e∈es,av6 e){n0:Nat}{v:Value}{w:World}(hv:Els n0 w v es)(hn0:n0≤w.heap.size)(hl:es.length≤1000000000000):
  Calls Tryz.prog 28 #[lvA (59+k) sh back,v] w fun r w'=> ∃u,r=.returned u∧UOwn w' w.heap.size u (if back=true then (lvl sh k false es).reverse else lvl sh k false es)∧Below w.heap.size w w':=by
 match k,hk with
 | 0,_=>exact af8 59 0 (fun _ _=>by rfl) as2 sh back hE hv hn0 hl
 | 1,_=>exact af8 60 1 (fun _ _=>by rfl) aow sh back hE hv hn0 hl
 | 2,_=>exact af8 61 2 (fun _ _=>by rfl) ap4 sh back hE hv hn0 hl
 | 3,_=>exact af8 62 3 (fun _ _=>by rfl) axo sh back hE hv hn0 hl
end Go.Proofs.YtfhpgmlfgjfknaaGreatDoor
