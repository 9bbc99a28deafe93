/- Contracts and lemmas (nothing is claimed here). -/
import Derived.Test.YtpfkoldfbecdlaaGreatDoorJ1
import Derived.Maps.AppendAt
import Derived.Maps.OwnSet
import Derived.Maps.Ext
namespace Go.Vf
def wh (G:Int→List Int):Nat→Int→List Int
 | 0,p=>[p]
 | k+1,p=>if G p=[] then [p] else (G p).flatMap (wh G k)
theorem ahc {G:Int→List Int}{p:Int}(h:G p=[])(k:Nat):wh G k p=[p]:=by
 cases k<;>simp[wh,h]
theorem wh_ne {G:Int→List Int}: ∀(k:Nat) (p:Int),wh G k p≠ []:=by
 intro k
 induction k with
 | zero=>intro p;simp[wh]
 | succ k ih=>
  intro p
  unfold wh
  split
  ·simp
  ·rename_i h
   intro e
   rw[List.flatMap_eq_nil_iff] at e
   cases hG:G p with
   | nil=>exact h hG
   | cons a r=>exact ih a (e a (by rw[hG];simp))
def Topo (G:Int→List Int)(ord:List Int):Prop:= ∀pre x post,ord=pre++x::post→ ∀y∈G x,y∈pre
theorem adp {α β:Type}{f g:α→List β}{l:List α}(h: ∀x∈l,f x=g x):l.flatMap f=l.flatMap g:=by
 induction l with
 | nil=>rfl
 | cons a r ih=>simp only[List.flatMap_cons];rw[h a (by simp),ih (fun x hx=>h x (by simp[hx]))]
section
variable {G:Int→List Int}{ord:List Int}
theorem wh_stable (ht:Topo G ord): ∀(n:Nat) (pre:List Int) (x:Int) (post:List Int),pre.length≤n→ord=pre++x::post→ ∀k,pre.length+1≤k→wh G k x=wh G (pre.length+1) x:=by
 intro n
 induction n with
 | zero=>
  intro pre x post hn hs k hk
  have hp:pre=[]:=List.length_eq_zero_iff.1 (by omega)
  have hG:G x=[]:=by
   cases hG:G x with
   | nil=>rfl
   | cons a r=>have:=ht pre x post hs a (by rw[hG];simp);rw[hp] at this;simp at this
  rw[ahc hG,ahc hG]
 | succ n ih=>
  intro pre x post hn hs k hk
  obtain⟨k',rfl⟩: ∃k',k=k'+1:=⟨k-1,by omega⟩
  unfold wh
  split
  ·rfl
  ·refine adp fun y hy=> ?_
   have hyp:=ht pre x post hs y hy
   obtain⟨p1,p2,e⟩:=List.append_of_mem hyp
   have hl:p1.length+1≤pre.length:=by rw[e];simp
   have hs2:ord=p1++y::(p2++x::post):=by rw[hs,e];simp
   rw[ih p1 y _ (by omega) hs2 k' (by omega),ih p1 y _ (by omega) hs2 pre.length (by omega)]
theorem wh_eq (ht:Topo G ord){N:Nat}(hN:ord.length+1≤N){x:Int}(hx:x∈ord)(hne:G x≠ []):wh G N x=(G x).flatMap (wh G N):=by
 obtain⟨pre,post,hs⟩:=List.append_of_mem hx
 have hlen:pre.length+1≤ord.length:=by rw[hs];simp
 obtain⟨N',rfl⟩: ∃N',N=N'+1:=⟨N-1,by omega⟩
 rw[wh,if_neg hne]
 refine adp fun y hy=> ?_
 obtain⟨p1,p2,e⟩:=List.append_of_mem (ht pre x post hs y hy)
 have hl:p1.length+1≤pre.length:=by rw[e];simp
 have hs2:ord=p1++y::(p2++x::post):=by rw[hs,e];simp
 rw[wh_stable ht _ p1 y _ (Nat.le_refl _) hs2 N' (by omega),wh_stable ht _ p1 y _ (Nat.le_refl _) hs2 (N'+1) (by omega)]
theorem wh_ends (ht:Topo G ord){N:Nat}(hN:ord.length+1≤N): ∀(n:Nat) (pre:List Int) (x:Int) (post:List Int),pre.length≤n→ord=pre++x::post→ ∀z∈wh G N x,G z=[]:=by
 intro n
 induction n with
 | zero=>
  intro pre x post hn hs z hz
  have hp:pre=[]:=List.length_eq_zero_iff.1 (by omega)
  have hG:G x=[]:=by
   cases hG:G x with
   | nil=>rfl
   | cons a r=>have:=ht pre x post hs a (by rw[hG];simp);rw[hp] at this;simp at this
  rw[ahc hG] at hz
  simp at hz;subst hz;exact hG
 | succ n ih=>
  intro pre x post hn hs z hz
  by_cases hG:G x=[]
  ·rw[ahc hG] at hz
   simp at hz;subst hz;exact hG
  ·rw[wh_eq ht hN (by rw[hs];simp) hG] at hz
   obtain⟨y,hy,hz⟩:=List.mem_flatMap.1 hz
   obtain⟨p1,p2,e⟩:=List.append_of_mem (ht pre x post hs y hy)
   have hl:p1.length+1≤pre.length:=by rw[e];simp
   exact ih p1 y (p2++x::post) (by omega) (by rw[hs,e];simp) z hz
def updL (E:Int→List Int)(x:Int)(v:List Int):Int→List Int:=fun y=>if y=x then v else E y
def aal (E:Int→List Int)(p:Int):List Int:=if E p=[] then [p] else E p
def afx (E:Int→List Int):List Int→List Int→List Int
 | acc,[]=>acc
 | acc,q::r=>if 18<(acc++aal E q).length then (acc++aal E q).take 19 else afx E (acc++aal E q) r
def ad8 (has:Int→Bool)(G:Int→List Int):List Int→(Int→List Int)→(Int→List Int)
 | [],E=>E
 | p::r,E=>ad8 has G r (if has p then updL E p (afx E [] (G p)) else E)
theorem joinF_eq (E:Int→List Int): ∀(l acc:List Int),acc.length≤18→afx E acc l=(acc++l.flatMap (aal E)).take 19:=by
 intro l
 induction l with
 | nil=>intro acc h;simp[afx];rw[List.take_of_length_le (by omega)]
 | cons q r ih=>
  intro acc h
  unfold afx
  split
  ·rename_i h2
   rw[List.flatMap_cons,←List.append_assoc,List.take_append_of_le_length (l₁:=acc++aal E q) (by omega)]
  ·rename_i h2
   rw[ih _ (by omega)]
   simp
theorem take_flatMap_take {f:Int→List Int}(n:Nat): ∀(l:List Int) (acc:List Int),(acc++l.flatMap (fun x=>(f x).take n)).take n=(acc++l.flatMap f).take n:=by
 intro l
 induction l with
 | nil=>intro acc;simp
 | cons a r ih=>
  intro acc
  simp only[List.flatMap_cons,←List.append_assoc]
  rw[ih]
  by_cases h:(f a).length≤n
  ·rw[List.take_of_length_le h]
  ·have e1:((acc++(f a).take n)++r.flatMap f).take n=(acc++(f a).take n).take n:=List.take_append_of_le_length (by simp;omega)
   have e2:((acc++f a)++r.flatMap f).take n=(acc++f a).take n:=List.take_append_of_le_length (by simp;omega)
   rw[e1,e2,List.take_append,List.take_append,List.take_take,Nat.min_eq_left (by omega)]
theorem fill_ok (ht:Topo G ord){N:Nat}(hN:ord.length+1≤N){has:Int→Bool}(hhas: ∀x,has x=false→G x=[]):
  ∀(rest pre:List Int) (E:Int→List Int),ord=pre++rest→(∀p,E p=if p∈pre∧G p≠ [] then (wh G N p).take 19 else [])→
   ∀p,ad8 has G rest E p=if p∈ord∧G p≠ [] then (wh G N p).take 19 else []:=by
 intro rest
 induction rest with
 | nil=>intro pre E hs hE p;simp at hs;subst hs;exact hE p
 | cons x r ih=>
  intro pre E hs hE p
  unfold ad8
  refine ih (pre++[x]) _ (by rw[hs];simp) ?_ p
  intro q
  have hends: ∀y∈G x,aal E y=(wh G N y).take 19:=fun y hy=>by
   have hyp:=ht pre x r hs y hy
   unfold aal
   rw[hE y]
   by_cases hG:G y=[]
   ·simp[hG,ahc hG]
   ·have hne:(wh G N y).take 19≠ []:=by
     intro e
     rw[List.take_eq_nil_iff] at e
     rcases e with e | e
     ·omega
     ·exact wh_ne N y e
    have e1:(if y∈pre∧G y≠ [] then (wh G N y).take 19 else [])=(wh G N y).take 19:=if_pos ⟨hyp,hG⟩
    rw[e1,if_neg hne]
  have hval:afx E [] (G x)=if G x≠ [] then (wh G N x).take 19 else []:=by
   rw[joinF_eq E (G x) [] (by simp),List.nil_append,adp hends]
   have:=take_flatMap_take (f:=wh G N) 19 (G x) []
   rw[List.nil_append,List.nil_append] at this
   rw[this]
   by_cases hG:G x=[]
   ·simp[hG]
   ·rw[if_pos hG,wh_eq ht hN (by rw[hs];simp) hG]
  by_cases hh:has x=true
  ·rw[if_pos hh]
   show(if q=x then afx E [] (G x) else E q)=_
   by_cases hq:q=x
   ·subst hq
    rw[if_pos rfl,hval]
    by_cases hG:G q=[]
    ·simp[hG]
    ·simp[hG]
   ·rw[if_neg hq,hE q]
    simp[hq]
  ·rw[if_neg hh,hE q]
   by_cases hq:q=x
   ·subst hq
    have:=hhas q (by simpa using hh)
    simp[this]
   ·simp[hq]
end
end Go.Vf
namespace Go.Proofs.YtpfkoldfbecdlaaGreatDoor
open Go.RowKit Go.Vf
def classE (line:Int)(r:Option Nat):Ending:=gotI line (match r with
 | none=>none
 | some n=>if n≤254 then some (n:Int) else none)
set_option maxHeartbeats 1000000 in
theorem readClass_any (b:Nat)(s:ByteArray)(line:Int)(w:World)(hs:s.size≤17179869184)(hl:w.cell? ⟨b,0,none⟩=some (.int .i64 line)):
  Calls Tryz.prog 144 #[.pointer (some ⟨b,0,none⟩),.string s] w fun e w'=>e=gotI line (ach s.data.toList)∧w=w':=by
 have hsl:s.data.toList.length=s.size:=(Lib.size_eq s).symm
 by_cases hlen:s.data.toList=[48]∨(s.data.toList≠ []∧s.data.toList.head?≠some 48∧s.data.toList.length≤3)
 ·have e1:gotI line (ach s.data.toList)=classE line (acs decV 10 s.data.toList 0):=by
   unfold ach classE
   rw[if_pos hlen]
   rfl
  rw[e1]
  generalize hR:acs decV 10 s.data.toList 0=R
  have HR:Hid (acs decV 10 s.data.toList 0=R):=hR
  clear hR e1
  rcases hlen with h0 | ⟨h1,h0,h3⟩
  ·have h4':(s.toList== [48])=true:=by rw[ByteArray.toList_eq];simp[h0]
   have hs3:s.size≤3:=by rw[←hsl,h0];simp
   clear h0
   go_enter Tryz.func144,Tryz.ntmps144
   go_wp2_with fail
   refine(ad4 _ _ _ _ (by simp;try omega)).mono ?_
   rintro e w1 ⟨rfl,rfl⟩
   go_wp2_with fail
   go_loopw [5,27] (fun x i wr=> ∃k n:Nat,k≤s.size∧i=.int .i64 k∧x=.int .i64 n∧n<10^k∧Hid (acs decV 10 (s.data.toList.drop k) n=R)∧w=wr) (fun _ i _=>s.size-(intOf i).toNat)
   case atStart=>exact⟨0,0,by omega,rfl,rfl,by omega,by simpa using HR,rfl⟩
   case round=>
    obtain⟨k,n,hk,rfl,rfl,hn,HK,rfl⟩:=hrel
    have hp6:(10:Nat)^k≤10^3:=Nat.pow_le_pow_right (by omega) (by omega)
    by_cases hlt:k<s.size
    ·have hd:=drop_at s k hlt
     have hb8:=s[k].toNat_lt
     go_wp2_with fail
     refine(adg b s[k] line _ hl).mono ?_
     rintro e w2 ⟨rfl,rfl⟩
     cases hv:decV s[k] with
     | none=>
      have hRn:R=none:=by rw[←HK.out,hd,acs,hv]
      simp only[gotN]
      go_wp2
      exact⟨rfl,by rw[hRn];rfl,rfl⟩
     | some d=>
      have hd16:=decV_lt hv
      have HK2:Hid (acs decV 10 (s.data.toList.drop (k+1)) (n*10+d)=R):=by
       show _=_
       rw[←HK.out,hd,acs,hv]
      simp only[gotN]
      have hn2:n*10+d<10^(k+1):=by rw[Nat.pow_succ];omega
      clear HK hd hv
      go_wp2
      go_roundw
      case rel=>exact⟨k+1,n*10+d,by omega,by simp,by simp;try omega,hn2,HK2,by trivial⟩
      case measure=>simp only[intOf];omega
    ·have hRs:R=some n:=by rw[←HK.out,af0 s k (by omega)];rfl
     clear HK
     by_cases hm:n≤254
     ·go_wp2_with fail
      refine(ad4 _ _ _ _ (by simp;try omega)).mono ?_
      rintro e w2 ⟨rfl,rfl⟩
      go_wp2
      go_ret
      exact⟨by rw[hRs];simp[classE,hm,gotI],rfl⟩
     ·go_wp2_with fail
      refine(adh b _ _ line _ (by simp;try omega) hl).mono ?_
      rintro e w2 ⟨rfl,rfl⟩
      go_wp2
      exact⟨rfl,by rw[hRs];simp[classE,hm,gotI],rfl⟩
  ·have hpos:0<s.size:=by
    rw[←hsl]
    exact List.length_pos_iff.2 h1
   have hs3:s.size≤3:=by omega
   have hne': ¬(s[0].toNat:Int)=48:=by
    rw[aep s hpos] at h0
    simp only[ne_eq,Option.some.injEq] at h0
    intro e
    exact h0 (UInt8.toNat_inj.1 (by
     have:s[0].toNat=48:=by omega
     simpa using this))
   have hne:((s[0].toNat:Int)==48)=false:=by simpa using hne'
   have h4':(s.toList== [48])=false:=by
    rw[ByteArray.toList_eq]
    simp only[beq_eq_false_iff_ne,ne_eq]
    intro e
    rw[e] at h0
    simp at h0
   have hemp:s.toList.isEmpty=false:=by rw[ByteArray.toList_eq];simpa using h1
   clear h0 h1
   go_enter Tryz.func144,Tryz.ntmps144
   go_wp2_with fail
   refine(ad4 _ _ _ _ (by simp;try first | omega | exact hne')).mono ?_
   rintro e w1 ⟨rfl,rfl⟩
   go_wp2_with fail
   go_loopw [5,27] (fun x i wr=> ∃k n:Nat,k≤s.size∧i=.int .i64 k∧x=.int .i64 n∧n<10^k∧Hid (acs decV 10 (s.data.toList.drop k) n=R)∧w=wr) (fun _ i _=>s.size-(intOf i).toNat)
   case atStart=>exact⟨0,0,by omega,rfl,rfl,by omega,by simpa using HR,rfl⟩
   case round=>
    obtain⟨k,n,hk,rfl,rfl,hn,HK,rfl⟩:=hrel
    have hp6:(10:Nat)^k≤10^3:=Nat.pow_le_pow_right (by omega) (by omega)
    by_cases hlt:k<s.size
    ·have hd:=drop_at s k hlt
     have hb8:=s[k].toNat_lt
     go_wp2_with fail
     refine(adg b s[k] line _ hl).mono ?_
     rintro e w2 ⟨rfl,rfl⟩
     cases hv:decV s[k] with
     | none=>
      have hRn:R=none:=by rw[←HK.out,hd,acs,hv]
      simp only[gotN]
      go_wp2
      exact⟨rfl,by rw[hRn];rfl,rfl⟩
     | some d=>
      have hd16:=decV_lt hv
      have HK2:Hid (acs decV 10 (s.data.toList.drop (k+1)) (n*10+d)=R):=by
       show _=_
       rw[←HK.out,hd,acs,hv]
      simp only[gotN]
      have hn2:n*10+d<10^(k+1):=by rw[Nat.pow_succ];omega
      clear HK hd hv
      go_wp2
      go_roundw
      case rel=>exact⟨k+1,n*10+d,by omega,by simp,by simp;try omega,hn2,HK2,by trivial⟩
      case measure=>simp only[intOf];omega
    ·have hRs:R=some n:=by rw[←HK.out,af0 s k (by omega)];rfl
     clear HK
     by_cases hm:n≤254
     ·go_wp2_with fail
      refine(ad4 _ _ _ _ (by simp;try omega)).mono ?_
      rintro e w2 ⟨rfl,rfl⟩
      go_wp2
      go_ret
      exact⟨by rw[hRs];simp[classE,hm,gotI],rfl⟩
     ·go_wp2_with fail
      refine(adh b _ _ line _ (by simp;try omega) hl).mono ?_
      rintro e w2 ⟨rfl,rfl⟩
      go_wp2
      exact⟨rfl,by rw[hRs];simp[classE,hm,gotI],rfl⟩
 ·have e1:ach s.data.toList=none:=by
   unfold ach
   rw[if_neg hlen]
  rw[e1]
  have h4':(s.toList== [48])=false:=by
   rw[ByteArray.toList_eq]
   simp only[beq_eq_false_iff_ne,ne_eq]
   exact fun e=>hlen (Or.inl e)
  by_cases hemp:s.data.toList=[]
  ·have hemp':s.toList.isEmpty=true:=by rw[ByteArray.toList_eq];simpa using hemp
   clear hlen
   go_enter Tryz.func144,Tryz.ntmps144
   go_wp2_with fail
   refine(adh b _ _ line _ (by simp;try omega) hl).mono ?_
   rintro e w1 ⟨rfl,rfl⟩
   go_wp2
   exact⟨rfl,rfl,rfl⟩
  ·have hemp':s.toList.isEmpty=false:=by rw[ByteArray.toList_eq];simpa using hemp
   have hpos:0<s.size:=by
    rw[←hsl]
    exact List.length_pos_iff.2 hemp
   by_cases h0:s[0]=48
   ·have he':(s[0].toNat:Int)=48:=by rw[h0];rfl
    have he:((s[0].toNat:Int)==48)=true:=by simpa using he'
    clear h0 hlen hemp
    go_enter Tryz.func144,Tryz.ntmps144
    go_wp2_with fail
    refine(adh b _ _ line _ (by simp;try first | omega | exact he') hl).mono ?_
    rintro e w1 ⟨rfl,rfl⟩
    go_wp2
    exact⟨rfl,rfl,rfl⟩
   ·have hne': ¬(s[0].toNat:Int)=48:=by
     intro e
     exact h0 (UInt8.toNat_inj.1 (by
      have:s[0].toNat=48:=by omega
      simpa using this))
    have hne:((s[0].toNat:Int)==48)=false:=by simpa using hne'
    have h3:3<s.size:=by
     by_cases h3:3<s.size
     ·exact h3
     ·refine absurd (Or.inr ⟨hemp,?_,by omega⟩) hlen
      rw[aep s hpos]
      simpa using h0
    clear h0 hlen hemp
    go_enter Tryz.func144,Tryz.ntmps144
    go_wp2_with fail
    refine(adh b _ _ line _ (by simp;try first | omega | exact he') hl).mono ?_
    rintro e w1 ⟨rfl,rfl⟩
    go_wp2
    exact⟨rfl,rfl,rfl⟩
end Go.Proofs.YtpfkoldfbecdlaaGreatDoor
namespace Go.Proofs.YtpfkoldfbecdlaaGreatDoor
open Go.RowKit Go.Vf Go.Maps
theorem info3:(Tryz.prog.info? 3).map (fun i=>(i.zero,i.size,i.bytes))=some (some (.int .i64 0),1,8):=by kernel_rfl
def IOwn (w:World)(base:Nat)(v:Value)(zs:List Int):Prop:=w.ownsRow base 3 1 v zs.length (zs.map (Value.int .i64))
theorem aae {w:World}{b b':Nat}{e:TypeId}{size:Nat}{v:Value}{k:Nat}{xs:List Value}(h:w.ownsRow b e size v k xs)(hb:b'≤b):w.ownsRow b' e size v k xs:=by
 obtain⟨h1,h2⟩:=h
 refine⟨h1,?_⟩
 rcases h2 with h2 | ⟨g,cap,cur,e1,e2,e3⟩
 ·exact .inl h2
 ·exact .inr ⟨g,cap,cur,e1,Nat.le_trans hb e2,e3⟩
theorem IOwn.mono {w:World}{b b':Nat}{v:Value}{zs:List Int}(h:IOwn w b v zs)(hb:b'≤b):IOwn w b' v zs:=aae h hb
theorem IOwn.nil (w:World)(base:Nat):IOwn w base (.slice none 0 0) []:=World.ownsRow_nil _ _ _ _
theorem aah {w:World}{base:Nat}{e:TypeId}{size:Nat}{v:Value}{k:Nat}{xs:List Value}(h:w.ownsRow base e size v k xs){j:Nat}(hj:v.ownBlock=some j):base≤j∧ ∃cs f,w.heap[j]? =some (.cells cs e f):=by
 rcases h.2 with ⟨rfl,_⟩ | ⟨g,cap,cur,rfl,hb,hgb,_⟩
 ·simp[Value.ownBlock] at hj
 ·obtain rfl:g=j:=by simpa[Value.ownBlock] using hj
  exact⟨hb,_,_,hgb⟩
def Ints (n₀:Nat)(W:World)(v:Value)(zs:List Int):Prop:=
 (∃a cap,v=.slice a 0 cap∧zs=[])∨ ∃b off cap,v=.slice (some ⟨b,off,none⟩) zs.length cap∧b<n₀∧ ∀j,j<zs.length→W.cell? ⟨b,off+j,none⟩=some (.int .i64 (zs[j]?.getD 0))
theorem Ints.below {n₀ n:Nat}{A B:World}(h:Below n A B)(hn:n₀≤n){v:Value}{zs:List Int}:Ints n₀ A v zs→Ints n₀ B v zs
 | .inl e=>.inl e
 | .inr ⟨b,off,cap,e,hb,hc⟩=>.inr ⟨b,off,cap,e,hb,fun j hj=>(h.cell (p:=⟨b,off+j,none⟩) (show b<n by omega)).trans (hc j hj)⟩
theorem Ints.mono {n₀ n:Nat}{A:World}(hn:n₀≤n){v:Value}{zs:List Int}:Ints n₀ A v zs→Ints n A v zs
 | .inl e=>.inl e
 | .inr ⟨b,off,cap,e,hb,hc⟩=>.inr ⟨b,off,cap,e,Nat.lt_of_lt_of_le hb hn,hc⟩
theorem IOwn.form {w:World}{base:Nat}{v:Value}{zs:List Int}(h:IOwn w base v zs):
  (v=.slice none 0 0∧zs=[])∨ ∃g cap,v=.slice (some ⟨g,0,none⟩) zs.length cap∧base≤g∧g<w.heap.size∧zs.length≤cap∧(∀j,j<zs.length→w.cell? ⟨g,j,none⟩=some (.int .i64 (zs[j]?.getD 0)))∧(∀j,w.frozen? ⟨g,j,none⟩=false):=by
 obtain⟨h1,h2⟩:=h
 rcases h2 with ⟨rfl,hn⟩ | ⟨g,cap,cur,rfl,hb,hh,hc1,hc2,hc3,hc4⟩
 ·exact .inl ⟨rfl,List.eq_nil_of_length_eq_zero hn⟩
 ·refine .inr ⟨g,cap,rfl,hb,(Array.getElem?_eq_some_iff.1 hh).1,hc1,fun j hj=> ?_,fun j=> ?_⟩
  ·have hx:(zs.map (Value.int .i64))[j]? =some (.int .i64 (zs[j]?.getD 0)):=by simp[hj]
   rw[←hc4,List.getElem?_take_of_lt (by omega)] at hx
   simp only[World.cell?,hh]
   simpa using hx
  ·simp[World.frozen?,hh]
theorem IOwn.ints {w:World}{base:Nat}{v:Value}{zs:List Int}(h:IOwn w base v zs):Ints w.heap.size w v zs:=by
 rcases h.form with h | ⟨g,cap,rfl,hb,hlt,_,hc,_⟩
 ·exact .inl ⟨none,0,h⟩
 ·exact .inr ⟨g,0,cap,rfl,hlt,fun j hj=>by rw[Nat.zero_add];exact hc j hj⟩
theorem IOwn.val {w:World}{base:Nat}{v:Value}{zs:List Int}(h:IOwn w base v zs): ∃a cap,v=.slice a zs.length cap:=by
 rcases h.form with ⟨rfl,rfl⟩ | ⟨g,cap,rfl,_⟩
 ·exact⟨_,_,rfl⟩
 ·exact⟨_,_,rfl⟩
theorem grown_of_below {w w':World}(h:Below w.heap.size w w'):w.grownBy w' none:=⟨h.os,h.tape,h.output,h.size,fun k hk _=>h.block k hk⟩
theorem aac {w w':World}{base:Nat}{e:TypeId}{size:Nat}{v:Value}{k:Nat}{xs:List Value}(h:w.ownsRow base e size v k xs)(hb:Below w.heap.size w w'):w'.ownsRow base e size v k xs:=by
 refine World.ownsRow.kept h (grown_of_below hb) ?_
 cases v.ownBlock with
 | none=>exact .inl rfl
 | some j=>exact .inr (fun e=>by cases e)
theorem aaf {w:World}{ops:Array Oper}{rest:List Oper}{o:Oper}{a:Act}{Q:Exit→Act→World→Prop}(hgd:o.guard=none)(s x:Operand)
  (ho:o.op=.call {callee:=.builtin .append,args:= #[s,x],argTypes:= #[90,90]})
  (base:Nat) (v:Value) (zs:List Int) (hs:a.eval s=v) (hown:IOwn w base v zs) (ys:List Int) (ad:Addr) (c:Nat) (hx:a.eval x=.slice (some ad) ys.length c)
  (hcell: ∀j,j<ys.length→w.cell? (ad.add j)=some (.int .i64 (ys[j]?.getD 0))) (hlen:zs.length+ys.length≤1099511627776) (hbase:base≤w.heap.size)
  (h: ∀a' c' w',IOwn w' base (.slice a' (zs.length+ys.length) c') (zs++ys)→w.grownBy w' v.ownBlock→((.slice a' (zs.length+ys.length) c':Value)=.slice none 0 0↔v=.slice none 0 0∧ys.length=0)→((Value.slice a' (zs.length+ys.length) c').ownBlock=v.ownBlock∨(Value.slice a' (zs.length+ys.length) c').ownBlock=some w.heap.size)→wpList Tryz.prog ops Q rest (a.put o.dst (.slice a' (zs.length+ys.length) c')) w'):
  wpList Tryz.prog ops Q (o::rest) a w:=by
 obtain⟨i,hi,hz,hsz,hby⟩:=info_parts info3
 refine wpList_append_own_at (P:=Tryz.prog) _ hgd s x 90 ho base 3 i (.int .i64 0) 1 8 Tryz.underlying90 hi hz hsz hby rfl (by decide) v zs.length (zs.map (Value.int .i64)) hs hown ad ys.length c (ys.map (Value.int .i64)) hx (by simp) ?_ ?_ ?_ ?_ hbase ?_
 ·intro j u hu
  have hj:j<ys.length:=by have:=(List.getElem?_eq_some_iff.1 hu).1;simpa using this
  rw[hcell j hj]
  simp[List.getElem?_map,List.getElem?_eq_getElem hj] at hu
  simp[List.getElem?_eq_getElem hj,hu]
 ·intro u hu
  obtain⟨y,_,rfl⟩:=List.mem_map.1 hu
  rfl
 ·unfold maxLen;omega
 ·omega
 ·intro v' w' h1 h2 h3 hat
  have h4:IOwn w' base v' (zs++ys):=by
   unfold IOwn
   rw[List.map_append,List.length_append]
   exact h1
  obtain⟨a',c',hv⟩:=h4.val
  rw[List.length_append] at hv
  subst hv
  exact h a' c' w' h4 h2 h3 hat
def Blk (W:World)(B:Nat)(t:TypeId)(cs:Array Value):Prop:=W.heap[B]? =some (.cells cs t (0,0))
theorem Blk.lt {W:World}{B:Nat}{t:TypeId}{cs:Array Value}(h:Blk W B t cs):B<W.heap.size:=(Array.getElem?_eq_some_iff.1 h).1
theorem Blk.cell {W:World}{B:Nat}{t:TypeId}{cs:Array Value}(h:Blk W B t cs)(j:Nat):W.cell? ⟨B,j,none⟩=cs[j]?:=by simp[World.cell?,show W.heap[B]? =_ from h]
theorem Blk.frozen {W:World}{B:Nat}{t:TypeId}{cs:Array Value}(h:Blk W B t cs)(j:Nat):W.frozen? ⟨B,j,none⟩=false:=by simp[World.frozen?,show W.heap[B]? =_ from h]
theorem Blk.new (W:World)(t:TypeId)(cs:Array Value):Blk (W.alloc (.cells cs t)) W.heap.size t cs:=heap_alloc_new W _
theorem Blk.below {W W':World}{B n:Nat}{t:TypeId}{cs:Array Value}(h:Blk W B t cs)(hb:Below n W W')(hB:B<n):Blk W' B t cs:=(hb.block B hB).trans h
theorem Blk.set {W:World}{B:Nat}{t:TypeId}{cs:Array Value}(j:Nat)(v:Value)(h:Blk W B t cs):Blk (W.setCell ⟨B,j,none⟩ v) B t (cs.setIfInBounds j v):=by
 obtain⟨hlt,hk⟩:=Array.getElem?_eq_some_iff.1 h
 show(W.heap.modify B _)[B]? =_
 rw[Array.getElem?_eq_getElem (by rw[Array.size_modify];exact hlt),Array.getElem_modify_self,hk]
 rfl
theorem Blk.set3 {W:World}{B:Nat}{t:TypeId}{a b c:Value}(h:Blk W B t #[a,b,c])(a' b' c':Value):Blk (((W.setCell ⟨B,0,none⟩ a').setCell ⟨B,1,none⟩ b').setCell ⟨B,2,none⟩ c') B t #[a',b',c']:=by
 have:=((h.set 0 a').set 1 b').set 2 c'
 simpa using this
def tokR (v:Value):Option (DataW Value×List MemPlace):=some (.held v,[])
def InI (x:Int):Prop:= -9223372036854775808≤x∧x≤9223372036854775807
theorem keyed3:Keyed Tryz.prog 3:=int_keyed Tryz.underlying3
theorem key3 {x:Int}(h:InI x):keyOf Tryz.prog 3 (.int .i64 x)=some (.int .i64 x):=keyOf_int_mk Tryz.underlying3 (by obtain⟨h1,h2⟩:=h;exact WalkArith.wf_i64 (by omega))
def MapAt (w:World)(b n:Nat)(f:Int→Option Value):Prop:=
 ∃D:DataW Value,w.ownsMap Tryz.prog 3 tokR b n D∧ ∀x,InI x→Maps.has D (.int .i64 x)=(f x).isSome∧ ∀z,D.atKey (.int .i64 x) (.held z)=.held ((f x).getD z)
def updO (f:Int→Option Value)(x:Int)(v:Value):Int→Option Value:=fun y=>if y=x then some v else f y
section
variable {w:World}{b n:Nat}{f:Int→Option Value}
theorem MapAt.made (w:World):MapAt (w.alloc (.map #[] 0)) w.heap.size 0 (fun _=>none):=⟨_,World.ownsMap_made w _ _ _,fun _ _=>⟨rfl,fun _=>rfl⟩⟩
theorem MapAt.lt (h:MapAt w b n f):b<w.heap.size:=let ⟨_,h,_⟩:=h;h.lt
theorem MapAt.kept {w':World}{row:Option Nat}(h:MapAt w b n f)(hg:w.grownBy w' row)(hne:some b≠row):MapAt w' b n f:=let ⟨D,h,h2⟩:=h;⟨D,h.kept hg hne,h2⟩
theorem MapAt.block {w':World}(h:MapAt w b n f)(hg:w'.heap[b]? =w.heap[b]?):MapAt w' b n f:=by
 obtain⟨D,⟨es,clock,hb,F,hs,hD⟩,h2⟩:=h
 exact⟨D,⟨es,clock,hg.trans hb,F,hs,hD⟩,h2⟩
theorem MapAt.below {w':World}{B:Nat}(h:MapAt w b n f)(hg:Below B w w')(hb:b<B):MapAt w' b n f:=h.block (hg.block b hb)
theorem MapAt.alloc (h:MapAt w b n f)(o:Obj):MapAt (w.alloc o) b n f:=let ⟨D,h,h2⟩:=h;⟨D,h.alloc o,h2⟩
theorem MapAt.drew (h:MapAt w b n f):MapAt w.drew b n f:=let ⟨D,h,h2⟩:=h;⟨D,h.drew,h2⟩
theorem MapAt.mono (h:MapAt w b n f){n':Nat}(hn:n≤n'):MapAt w b n' f:=let ⟨D,h,h2⟩:=h;⟨D,h.mono hn,h2⟩
theorem MapAt.setCell (h:MapAt w b n f){a:Addr}(ha:b≠a.block)(u:Value):MapAt (w.setCell a u) b n f:=let ⟨D,h,h2⟩:=h;⟨D,h.setCell ha u,h2⟩
theorem MapAt.look (h:MapAt w b n f){t e:TypeId}(ht:Tryz.prog.underlying t=some (.map 3 e)){z:Value}(hz:(zeroValue e).run Tryz.prog w=.ok z w){k:Int}(hk:InI k):
  (Instr.lookup t (.map (some b)) (.int .i64 k) false).run Tryz.prog w=.ok ((f k).getD z) w:=by
 obtain⟨D,hown,h2⟩:=h
 obtain⟨v,ps,hrun,hv⟩:=hown.lookup keyed3 ht hz (zd:=.held z) (zp:=[]) rfl (key3 hk)
 rw[(h2 k hk).2 z] at hv
 simp only[tokR,Option.some.injEq,Prod.mk.injEq,DataW.held.injEq] at hv
 rw[hrun,hv.1]
theorem MapAt.look_ok (h:MapAt w b n f){t e:TypeId}(ht:Tryz.prog.underlying t=some (.map 3 e)){z:Value}(hz:(zeroValue e).run Tryz.prog w=.ok z w){k:Int}(hk:InI k):
  (Instr.lookup t (.map (some b)) (.int .i64 k) true).run Tryz.prog w=.ok (.tuple #[(f k).getD z,.bool (f k).isSome]) w:=by
 obtain⟨D,hown,h2⟩:=h
 obtain⟨v,ps,hrun,hv⟩:=hown.look_ok keyed3 ht hz (zd:=.held z) (zp:=[]) rfl (key3 hk)
 rw[(h2 k hk).2 z] at hv
 simp only[tokR,Option.some.injEq,Prod.mk.injEq,DataW.held.injEq] at hv
 rw[hrun,hv.1,(h2 k hk).1]
theorem MapAt.update (h:MapAt w b n f){t e:TypeId}(ht:Tryz.prog.underlying t=some (.map 3 e))(hn:n<maxLen){k:Int}(hk:InI k)(v:Value):
  ∃w',(Instr.mapUpdate t (.map (some b)) (.int .i64 k) v).run Tryz.prog w=.ok () w'∧MapAt w' b (n+1) (updO f k v)∧w.grownBy w' (some b)∧w'.heap.size=w.heap.size:=by
 obtain⟨D,hown,h2⟩:=h
 have him:=hown.isMap
 obtain⟨w',hrun,hown',hturn⟩:=hown.store keyed3 ht hn (key3 hk) (d:=.held v) (ps:=[]) (val:=v) rfl
 refine⟨w',hrun,⟨_,hown',fun x hx=> ?_⟩,hturn.grown,?_⟩
 ·by_cases e:x=k
  ·subst e
   refine⟨?_,fun z=> ?_⟩
   ·rw[Maps.has_put_same him (show WideAt.IsKeyLit (.int .i64 x) from trivial)];simp[updO]
   ·rw[Maps.atKey_put_same him (show WideAt.IsKeyLit (.int .i64 x) from trivial)];simp[updO]
  ·have hne:(Lit.int .i64 x)≠ .int .i64 k:=fun e'=>e (by cases e';rfl)
   refine⟨?_,fun z=> ?_⟩
   ·rw[Maps.has_put_other hne,(h2 x hx).1];simp[updO,e]
   ·rw[Maps.atKey_put_other hne,(h2 x hx).2];simp[updO,e]
 ·obtain⟨es,clock,es',clock',_,e⟩:=hturn
  rw[e];simp[ChangeMaps.setBlock]
end
def Strs (w:World)(g:Nat)(l:List (List UInt8)):Prop:=w.heap[g]? =some (.cells ((l.map bsz).map Value.string).toArray 9 (0,0))
theorem Strs.cell {w:World}{g:Nat}{l:List (List UInt8)}(h:Strs w g l){j:Nat}(hj:j<l.length):w.cell? ⟨g,j,none⟩=some (.string (bsz l[j])):=by
 simp only[World.cell?,show w.heap[g]? =_ from h]
 simp[hj]
theorem Strs.below {w w':World}{g B:Nat}{l:List (List UInt8)}(h:Strs w g l)(hb:Below B w w')(hg:g<B):Strs w' g l:=(hb.block g hg).trans h
theorem adv (c:UInt8)(s:ByteArray)(m:Int)(w:World)(hs:s.size≤65536)(hm:w.cell? ⟨2,0,none⟩=some (.int .i64 m)):
  Calls Tryz.prog 45 #[.string s,.string ⟨#[c]⟩] w fun e w'=>e=.returned (.slice (some ⟨w.heap.size,0,none⟩) (aa7 c s.data.toList).length (aa7 c s.data.toList).length)∧Strs w' w.heap.size (aa7 c s.data.toList)∧Below w.heap.size w w'∧w'.heap.size=w.heap.size+1:=by
 refine(Tryz.strings_Split s ⟨#[c]⟩ m w (by omega) hm (Nat.le_refl _)).mono ?_
 rintro e w' ⟨rfl,rfl⟩
 rw[cutL_length]
 refine⟨rfl,?_,(Below.refl _ _).alloc (Nat.le_refl _) _,by simp⟩
 show(w.alloc _).heap[w.heap.size]? =_
 rw[(MapKept.heap_alloc w _).1,split_cut]
def PartsPost (line:Int)(w:World)(r:Option (List Int))(e:Ending)(w':World):Prop:=
 match r with
 | none=>e=lostE 40 line∧Below w.heap.size w w'
 | some l=> ∃a n cap,e=.returned (.slice a n cap)∧IOwn w' w.heap.size (.slice a n cap) l∧Below w.heap.size w w'
theorem cell_one (q:Int)(w:World): ∀j,j< [q].length→(w.alloc (.cells #[.int .i64 q] 3)).cell? ((⟨w.heap.size,0,none⟩:Addr).add j)=some (.int .i64 ([q][j]?.getD 0)):=by
 intro j hj
 obtain rfl:j=0:=by simpa using hj
 simp[Addr.add]
set_option maxHeartbeats 1000000 in
theorem readParts_any (b:Nat)(s:ByteArray)(line m:Int)(w:World)(hs:s.size≤65536)(hm:w.cell? ⟨2,0,none⟩=some (.int .i64 m))(hl:w.cell? ⟨b,0,none⟩=some (.int .i64 line)):
  Calls Tryz.prog 145 #[.pointer (some ⟨b,0,none⟩),.string s] w fun e w'=>PartsPost line w (afa s.data.toList) e w':=by
 have hsl:s.data.toList.length=s.size:=(Lib.size_eq s).symm
 by_cases hemp:s.data.toList=[]
 ·have hemp':s.toList.isEmpty=true:=by rw[ByteArray.toList_eq];simpa using hemp
  rw[show afa s.data.toList=some [] by simp[afa,hemp]]
  clear hemp
  go_enter Tryz.func145,Tryz.ntmps145
  go_wp2
  go_ret
  exact⟨_,_,_,rfl,IOwn.nil _ _,Below.refl _ _⟩
 ·have hemp':s.toList.isEmpty=false:=by rw[ByteArray.toList_eq];simpa using hemp
  rw[show afa s.data.toList=abd (aa7 32 s.data.toList) by simp[afa,hemp]]
  have hcl:=abn 32 s.data.toList
  have hcs:=abj 32 s.data.toList
  have hbl:=World.block_lt_of_cell? w _ hl
  generalize hL:aa7 32 s.data.toList=L at hcl hcs
  generalize hR:abd L=R
  clear hemp
  go_enter Tryz.func145,Tryz.ntmps145
  go_wp2_with fail
  refine(adv 32 s m _ hs hm).mono ?_
  rintro e w1 ⟨rfl,hst,hb1,hsz1⟩
  rw[hL] at hst⊢
  have hl1:w1.cell? ⟨b,0,none⟩=some (.int .i64 line):=(hb1.cell (p:=⟨b,0,none⟩) hbl).trans hl
  have HR:Hid (abd L=R):=hR
  clear hL hR hl
  go_wp2_with fail
  go_loopw [5,13] (fun v i wr=> ∃(k:Nat) (acc:List Int),k≤L.length∧i=.int .i64 k∧IOwn wr w1.heap.size v acc∧acc.length=k∧Hid (R=(abd (L.drop k)).map (acc++ ·))∧Below w1.heap.size w1 wr∧w1.heap.size≤wr.heap.size) (fun _ i _=>L.length-(intOf i).toNat)
  case atStart=>exact⟨0,[],by omega,rfl,IOwn.nil _ _,rfl,by show _=_;rw[←HR.out];simp,Below.refl _ _,Nat.le_refl _⟩
  case round=>
   obtain⟨k,acc,hk,rfl,hown,hal,HK,hbel,hsz⟩:=hrel
   have hbel0:Below w.heap.size w wr:=hb1.trans (hbel.mono hb1.size)
   by_cases hlt:k<L.length
   ·have hd:L.drop k=L[k]::L.drop (k+1):=List.drop_eq_getElem_cons hlt
    have hck:=(hst.below hbel (by omega)).cell hlt
    have hlr:wr.cell? ⟨b,0,none⟩=some (.int .i64 line):=(hbel.cell (p:=⟨b,0,none⟩) (by show b<_;have:=hb1.size;omega)).trans hl1
    have hkl:=hcs L[k] (List.getElem_mem hlt)
    have hszk:(bsz L[k]).size≤17179869184:=by simp[ByteArray.size];omega
    go_wp2_with fail
    refine(readPoint_any b (bsz L[k]) line _ hszk hlr).mono ?_
    rintro e w2 ⟨rfl,rfl⟩
    rw[show (bsz L[k]).data.toList=L[k] by simp]
    cases hp:abc L[k] with
    | none=>
     have hRn:R=none:=by rw[HK.out,hd,abd,hp];rfl
     simp only[gotI]
     go_wp2
     subst hRn
     exact⟨rfl,rfl,hbel0⟩
    | some q=>
     have HK2:Hid (R=(abd (L.drop (k+1))).map ((acc++[q])++ ·)):=by
      show _=_
      rw[HK.out,hd,abd,hp]
      cases abd (L.drop (k+1))<;>simp
     clear HK hd hp
     simp only[gotI]
     go_wp2_with (first | (at_builtin;refine aaf rfl _ _ rfl w1.heap.size _ acc rfl (World.ownsRow.alloc hown _) [q] ⟨wr.heap.size,0,none⟩ 1 rfl (cell_one q wr) (by simp;omega) (by simp;omega) ?_;intro a' c' w3 hown3 hgr3 _ _))
     have hb3:Below w1.heap.size wr w3:=((Below.refl _ wr).alloc hsz _).grown hgr3 (by simp;omega) (fun j hj=>(aah hown hj).1)
     have hs3:=hgr3.size
     go_wp2
     go_roundw
     case rel=>exact⟨k+1,acc++[q],by omega,by simp,by first | exact hown3 | (rw[hal] at hown3;exact hown3),by simp[hal],HK2,hbel.trans hb3,by simp at hs3;omega⟩
     case measure=>simp only[intOf];omega
   ·have hRs:R=some acc:=by rw[HK.out,List.drop_of_length_le (by omega)];simp[abd]
    go_wp2
    go_ret
    subst hRs
    obtain⟨ax,cx,rfl⟩:=hown.val
    exact⟨_,_,_,rfl,hown.mono hb1.size,hbel0⟩
end Go.Proofs.YtpfkoldfbecdlaaGreatDoor
