/- Contracts and lemmas (nothing is claimed here). -/
import Derived.Test.YtfhpgmlfgjfknaaGreatDoorJ22
import Derived.OwnWalk
namespace Go.Proofs.YtfhpgmlfgjfknaaGreatDoor
open Go.RowKit Go.Vf Go.Maps
def adg:List Ent→Bool→List UInt8→Option (List UInt8)
 | [],_,acc=>some acc
 | x::r,f,acc=>if 65536<((if f then acc else acc++[10])++ahb x).length then none else adg r false ((if f then acc else acc++[10])++ahb x)
theorem ahz (x:Ent)(r:List Ent)(f:Bool)(acc:List UInt8):adg (x::r) f acc=if 65536<((if f then acc else acc++[10])++ahb x).length then none else adg r false ((if f then acc else acc++[10])++ahb x):=rfl
def aea:List Ent→List Int→Bool
 | [],_=>true
 | x::r,ab=>if adp x.1=true then if ar5 x.2=true then if 0≤aaj ab x.1 then false else aea r x.1 else false else false
def ai0 (l:List Ent):Except Int (List UInt8):=if 4096<l.length then .error 2 else if aea l []=true then (match adg l true [] with
 | none=>.error 2
 | some t=>.ok t) else .error 1
theorem arz: ∀(l:List Ent) (ab:List Int),aea l ab=true→ ∀x∈l,EntOk x:=by
 intro l
 induction l with
 | nil=>intro _ _ x hx;cases hx
 | cons a r ih=>
  intro ab h x hx
  unfold aea at h
  split at h
  ·rename_i h1
   split at h
   ·rename_i h2
    split at h
    ·cases h
    ·rcases List.mem_cons.1 hx with rfl | hx
     ·unfold ar5 at h2
      simp only[Bool.and_eq_true,decide_eq_true_eq] at h2
      exact⟨h1,h2.1.1,h2.1.2,h2.2⟩
     ·exact ih _ h x hx
   ·cases h
  ·cases h
theorem afr {tmps:Array Value}{w:World}{a b:Value}(t2:tmps[2]?.getD undef=a)(t3:tmps[3]?.getD undef=b):(results Tryz.f84 tmps).run Tryz.prog w=.ok (.tuple #[a,b]) w:=by
 simp[results,Tryz.results84,go_sem,t2,t3]
theorem acd {tmps:Array Value}{w:World}{a b:Value}(t2:tmps[2]?.getD undef=a)(t3:tmps[3]?.getD undef=b):(results Tryz.f48 tmps).run Tryz.prog w=.ok (.tuple #[a,b]) w:=by
 simp[results,Tryz.results48,go_sem,t2,t3]
set_option maxHeartbeats 4000000 in
set_option maxRecDepth 20000 in
theorem akx (l:List Ent)(hl:l.length≤4096)(hmay: ∀x∈l,EntOk x)(v:Value)(n₀:Nat)(w:World)(hn₀:n₀≤w.heap.size)(hin:EIn n₀ w v l)(h6:8<w.heap.size)(ht:w.cell? ⟨8,15,none⟩=some (.int .u8 4)):
  Calls Tryz.prog 84 #[v] w fun e w'=>e=am4 (adg l true [])∧Below w.heap.size w w':=by
 obtain⟨a,cap,rfl⟩:=hin.val
 generalize hR:adg l true []=R
 have HR:Hid (adg l true []=R):=hR
 clear hR
 go_enter Tryz.func84,Tryz.ntmps84
 go_wp2_with fail
 go_loopw [4,9] (fun v i wr=> ∃(k:Nat) (acc:List UInt8),k≤l.length∧i=.int .i64 k∧BOwn 5 wr w.heap.size v acc∧acc.length≤65536∧Hid (adg (l.drop k) (decide (k=0)) acc=R)∧Below w.heap.size w wr∧w.heap.size≤wr.heap.size) (fun _ i _=>l.length-(intOf i).toNat)
 case atStart=>exact⟨0,[],by omega,rfl,BOwn.nil _ _ _,by simp,by simpa using HR,Below.refl _ _,Nat.le_refl _⟩
 case round=>
  clear HR
  obtain⟨k,acc,hk,rfl,hown,hal,HK,hbel,hsz⟩:=hrel
  by_cases hlt:k<l.length
  ·have hd:l.drop k=l[k]::l.drop (k+1):=List.drop_eq_getElem_cons hlt
   obtain⟨b,off,rfl,pa,pc,ea,ec,c0,c1,hpi,hei⟩:=(hin.below hbel hn₀).at hlt
   have hm:=hmay _ (List.getElem_mem hlt)
   have hKK:=HK.out
   rw[hd,ahz] at hKK
   generalize l[k]=mm at c0 c1 hpi hei hm hKK
   obtain⟨p,es⟩:=mm
   simp only at c0 c1 hpi hei
   have hb1:=hbel.alloc hsz (.cells #[.slice pa p.length pc,.slice ea es.length ec] 160)
   have hbn:=Blk.new wr 160 #[.slice pa p.length pc,.slice ea es.length ec]
   have hown1:=BOwn.alloc hown (.cells #[.slice pa p.length pc,.slice ea es.length ec] 160)
   have hsz1:w.heap.size≤(wr.alloc (.cells #[.slice pa p.length pc,.slice ea es.length ec] 160)).heap.size:=by simp;omega
   have hpi1:=Ints.below ((Below.refl w.heap.size wr).alloc hsz (.cells #[.slice pa p.length pc,.slice ea es.length ec] 160)) hn₀ hpi
   have hei1:=hei.below ((Below.refl w.heap.size wr).alloc hsz (.cells #[.slice pa p.length pc,.slice ea es.length ec] 160)) hn₀
   clear HK hd
   have HKK:Hid ((if 65536<((if decide (k=0)=true then acc else acc++[10])++ahb (p,es)).length then none else adg (l.drop (k+1)) false ((if decide (k=0)=true then acc else acc++[10])++ahb (p,es)))=R):=hKK
   clear hKK
   go_upto_region 5 with fail
   generalize wr.alloc (.cells #[.slice pa p.length pc,.slice ea es.length ec] 160)=W at hb1 hbn hown1 hsz1 hpi1 hei1⊢
   have e0:=hbn.cell 0
   have e1:=hbn.cell 1
   by_cases hk0:0<k
   ·have hdk:decide (k=0)=false:=by simp;omega
    rw[hdk] at HKK
    simp only[Bool.false_eq_true,if_false] at HKK
    go_wp2_with (at_builtin;refine aap rfl _ _ rfl w.heap.size _ acc rfl hown1 10 10 rfl _ rfl (by omega) hsz1 W (Below.refl _ _) (KO.refl _) ?_;intro v2 w2 hown2 hb2 hsz2 hko2;have hbn2:=hko2 _ _ _ (by decide) hbn;have g0:=Blk.cell hbn2 0;have g1:=Blk.cell hbn2 1)
    refine(ahf p es hm w.heap.size n₀ hn₀ pa pc ea ec v2 _ w2 hown2 (by simp;omega) hsz2 h6 (((hb1.trans hb2).cell (p:=⟨8,15,none⟩) h6).trans ht) (Ints.below hb2 hn₀ hpi1) (hei1.below hb2 hn₀)).mono ?_
    rintro e w3 ⟨v3,rfl,hown3,hb3,hsz3,hko3⟩
    generalize (acc++[10])++ahb (p,es)=acc3 at hown3 HKK
    obtain⟨a3,c3,rfl⟩:=abn hown3
    have hbel3:=(hb1.trans hb2).trans hb3
    by_cases hL:65536<acc3.length
    ·have hRn:R=none:=by rw[←HKK.out,if_pos hL]
     go_wp2_with fail
     refine bodyPost_ret (afr rfl rfl) rfl ?_
     exact⟨by rw[hRn];rfl,hbel3⟩
    ·have HK3:Hid (adg (l.drop (k+1)) false acc3=R):=by
      have h:=HKK.out
      rw[if_neg hL] at h
      exact h
     go_wp2_with fail
     go_roundw
     case rel=>exact⟨k+1,acc3,by omega,by simp,hown3,by omega,by simpa using HK3,hbel3,hsz3⟩
     case measure=>simp only[intOf];omega
   ·have hdk:decide (k=0)=true:=by simp;omega
    rw[hdk] at HKK
    simp only[if_true] at HKK
    have hk00:decide ((0:Int)<(k:Int))=false:=by simp;omega
    go_wp2_with fail
    refine(ahf p es hm w.heap.size n₀ hn₀ pa pc ea ec _ _ W hown1 (by omega) hsz1 h6 ((hb1.cell (p:=⟨8,15,none⟩) h6).trans ht) hpi1 hei1).mono ?_
    rintro e w3 ⟨v3,rfl,hown3,hb3,hsz3,hko3⟩
    generalize acc++ahb (p,es)=acc3 at hown3 HKK
    obtain⟨a3,c3,rfl⟩:=abn hown3
    have hbel3:=hb1.trans hb3
    by_cases hL:65536<acc3.length
    ·have hRn:R=none:=by rw[←HKK.out,if_pos hL]
     go_wp2_with fail
     refine bodyPost_ret (afr rfl rfl) rfl ?_
     exact⟨by rw[hRn];rfl,hbel3⟩
    ·have HK3:Hid (adg (l.drop (k+1)) false acc3=R):=by
      have h:=HKK.out
      rw[if_neg hL] at h
      exact h
     go_wp2_with fail
     go_roundw
     case rel=>exact⟨k+1,acc3,by omega,by simp,hown3,by omega,by simpa using HK3,hbel3,hsz3⟩
     case measure=>simp only[intOf];omega
  ·have hRs:R=some acc:=by rw[←HK.out,List.drop_of_length_le (by omega)];rfl
   have hcv:=afq (P:=Tryz.prog) wr 74 9 5 Tryz.underlying74 Tryz.underlying5 Tryz.underlying9 w.heap.size _ acc hown
   obtain⟨a3,c3,rfl⟩:=abn hown
   clear HK
   go_wp2_with fail
   refine bodyPost_ret (afr rfl rfl) rfl ?_
   exact⟨by rw[hRs];rfl,hbel⟩
set_option maxHeartbeats 4000000 in
set_option maxRecDepth 20000 in
theorem awt (l:List Ent)(hll:l.length≤4611686018427387904)(hpl: ∀x∈l,x.1.length≤4611686018427387904∧x.2.length≤4611686018427387904)(v:Value)(n₀:Nat)(w:World)(hn₀:n₀≤w.heap.size)(hin:EIn n₀ w v l)(h6:8<w.heap.size)(ht:w.cell? ⟨8,15,none⟩=some (.int .u8 4)):
  Calls Tryz.prog 48 #[v] w fun e w'=>e=ava (ai0 l)∧Below w.heap.size w w':=by
 by_cases hlong:4096<l.length
 ·obtain⟨a,cap,rfl⟩:=hin.val
  have hR:ai0 l=.error 2:=by unfold ai0;rw[if_pos hlong]
  rw[hR]
  go_enter Tryz.func48,Tryz.ntmps48
  go_wp2_with fail
  refine bodyPost_ret (acd rfl rfl) rfl ?_
  exact⟨rfl,Below.refl _ _⟩
 ·have hl:l.length≤4096:=by omega
  have hR:ai0 l=if aea l []=true then (match adg l true [] with
   | none=>.error 2
   | some t=>.ok t) else .error 1:=by unfold ai0;rw[if_neg hlong]
  generalize ai0 l=PR at hR
  generalize hC:aea l []=C at hR
  have HC:Hid (aea l []=C):=hC
  have HR:Hid (PR=if C=true then (match adg l true [] with
   | none=>.error 2
   | some t=>.ok t) else .error 1):=hR
  clear hR hC
  obtain⟨a,cap,rfl⟩:=hin.val
  go_enter Tryz.func48,Tryz.ntmps48
  go_wp2_with fail
  go_loopw [4,14] (fun x i wr=> ∃(k:Nat) (ab:List Int),k≤l.length∧i=.int .i64 k∧Ints n₀ w x ab∧ab.length≤4611686018427387904∧Hid (aea (l.drop k) ab=C)∧Below w.heap.size w wr∧w.heap.size≤wr.heap.size) (fun _ i _=>l.length-(intOf i).toNat)
  case atStart=>exact⟨0,[],by omega,rfl,.inl ⟨_,_,rfl,rfl⟩,by simp,by simpa using HC,Below.refl _ _,Nat.le_refl _⟩
  case round=>
   obtain⟨k,ab,hk,rfl,hab,habl,HK,hbel,hsz⟩:=hrel
   obtain⟨xa,xc,hxv⟩:=ai7 hab
   subst hxv
   by_cases hlt:k<l.length
   ·have hd:l.drop k=l[k]::l.drop (k+1):=List.drop_eq_getElem_cons hlt
    obtain⟨b,off,rfl,pa,pc,ea,ec,d0,d1,hpi0,hei0⟩:=hin.at hlt
    have c0:=(hbel.cell (p:=⟨b,off+k*2,none⟩) (World.block_lt_of_cell? w _ d0)).trans d0
    have c1:=(hbel.cell (p:=⟨b,off+k*2+1,none⟩) (World.block_lt_of_cell? w _ d1)).trans d1
    have hml:=hpl _ (List.getElem_mem hlt)
    have hKK:=HK.out
    rw[hd,aea] at hKK
    generalize l[k]=mm at c0 c1 d0 d1 hpi0 hei0 hml hKK
    obtain⟨p,es⟩:=mm
    simp only at c0 c1 hpi0 hei0 hml hKK
    have HKK:Hid ((if adp p=true then if ar5 es=true then if 0≤aaj ab p then false else aea (l.drop (k+1)) p else false else false)=C):=hKK
    have hb1:=hbel.alloc hsz (.cells #[.slice pa p.length pc,.slice ea es.length ec] 160)
    have hbn:=Blk.new wr 160 #[.slice pa p.length pc,.slice ea es.length ec]
    have hsz1:w.heap.size≤(wr.alloc (.cells #[.slice pa p.length pc,.slice ea es.length ec] 160)).heap.size:=by simp;omega
    clear hKK HK hd HC d0 d1
    go_upto_region 7 with fail
    generalize wr.alloc (.cells #[.slice pa p.length pc,.slice ea es.length ec] 160)=W at hb1 hbn hsz1⊢
    have e0:=hbn.cell 0
    have e1:=hbn.cell 1
    go_wp2_with fail
    refine(alc n₀ _ p W (by omega) (Ints.below hb1 hn₀ hpi0) hml.1).mono ?_
    cases hrw:adp p with
    | false=>
     rw[hrw] at HKK
     have hCf:C=false:=by rw[←HKK.out];rfl
     have hPR:PR=.error 1:=by rw[HR.out,hCf];rfl
     rintro e w2 ⟨rfl,hb2⟩
     rw[show avr p=.tuple #[.agg #[.int .i64 0,.int .i64 0,.int .i64 0,.int .i64 0,.int .i64 0,.int .i64 0,.int .i64 0,.int .i64 0],.bool false] from by unfold avr;rw[hrw];try rfl]
     have hbel2:=(hb1.trans (hb2.mono hsz1)).alloc (Nat.le_trans hsz1 hb2.size) (.cells #[.int .i64 0,.int .i64 0,.int .i64 0,.int .i64 0,.int .i64 0,.int .i64 0,.int .i64 0,.int .i64 0] 162)
     go_wp2_with fail
     refine bodyPost_ret (acd rfl rfl) rfl ?_
     exact⟨by rw[hPR];rfl,hbel2⟩
    | true=>
     rw[hrw] at HKK
     have HK1:Hid ((if ar5 es=true then if 0≤aaj ab p then false else aea (l.drop (k+1)) p else false)=C):=HKK
     rintro e w2 ⟨rfl,hb2⟩
     obtain⟨a0,a1,a2,a3,a4,a5,a6,a7,hpad⟩:=arq (ael (abf hrw).2)
     rw[show avr p=.tuple #[.agg #[.int .i64 a0,.int .i64 a1,.int .i64 a2,.int .i64 a3,.int .i64 a4,.int .i64 a5,.int .i64 a6,.int .i64 a7],.bool true] from by unfold avr;rw[hrw,hpad];try rfl]
     have hbel2:=(hb1.trans (hb2.mono hsz1)).alloc (Nat.le_trans hsz1 hb2.size) (.cells #[.int .i64 a0,.int .i64 a1,.int .i64 a2,.int .i64 a3,.int .i64 a4,.int .i64 a5,.int .i64 a6,.int .i64 a7] 162)
     have hbn2:=afa (hbn.below hb2 hbn.lt) (.cells #[.int .i64 a0,.int .i64 a1,.int .i64 a2,.int .i64 a3,.int .i64 a4,.int .i64 a5,.int .i64 a6,.int .i64 a7] 162)
     have hsz2:w.heap.size≤(w2.alloc (.cells #[.int .i64 a0,.int .i64 a1,.int .i64 a2,.int .i64 a3,.int .i64 a4,.int .i64 a5,.int .i64 a6,.int .i64 a7] 162)).heap.size:=by have:=hb2.size;simp;omega
     clear HKK
     go_upto_region 8 with fail
     generalize w2.alloc (.cells #[.int .i64 a0,.int .i64 a1,.int .i64 a2,.int .i64 a3,.int .i64 a4,.int .i64 a5,.int .i64 a6,.int .i64 a7] 162)=W3 at hbel2 hbn2 hsz2⊢
     have f0:=hbn2.cell 0
     have f1:=hbn2.cell 1
     go_wp2_with fail
     refine(akh n₀ _ es W3 (by omega) (hei0.below hbel2 hn₀) hml.2).mono ?_
     rintro e w4 ⟨rfl,hb4⟩
     have hbel4:=hbel2.trans (hb4.mono hsz2)
     have hbn4:=hbn2.below hb4 hbn2.lt
     have hsz4:=Nat.le_trans hsz2 hb4.size
     have h0:=hbn4.cell 0
     cases har:ar5 es with
     | false=>
      rw[har] at HK1
      have hCf:C=false:=by rw[←HK1.out];rfl
      have hPR:PR=.error 1:=by rw[HR.out,hCf];rfl
      go_wp2_with fail
      refine bodyPost_ret (acd rfl rfl) rfl ?_
      exact⟨by rw[hPR];rfl,hbel4⟩
     | true=>
      rw[har] at HK1
      have HK2:Hid ((if 0≤aaj ab p then false else aea (l.drop (k+1)) p)=C):=HK1
      go_wp2_with fail
      refine(akg n₀ n₀ _ _ ab p w4 (Ints.below hbel4 hn₀ hab) (Ints.below hbel4 hn₀ hpi0) habl hml.1).mono ?_
      rintro e w5 ⟨rfl,rfl⟩
      generalize aaj ab p=z at HK2
      by_cases hz:0≤z
      ·have hCf:C=false:=by rw[←HK2.out,if_pos hz]
       have hPR:PR=.error 1:=by rw[HR.out,hCf];rfl
       go_wp2_with fail
       refine bodyPost_ret (acd rfl rfl) rfl ?_
       exact⟨by rw[hPR];rfl,hbel4⟩
      ·have HK3:Hid (aea (l.drop (k+1)) p=C):=by
        have h:=HK2.out
        rw[if_neg hz] at h
        exact h
       go_wp2_with fail
       go_roundw
       case rel=>exact⟨k+1,p,by omega,by simp,hpi0,hml.1,HK3,hbel4,hsz4⟩
       case measure=>simp only[intOf];omega
   ·have hCt:C=true:=by rw[←HK.out,List.drop_of_length_le (by omega)];rfl
    have hmay:=arz l [] (by rw[HC.out];exact hCt)
    have HPR:Hid (PR=match adg l true [] with
     | none=>.error 2
     | some t=>.ok t):=by show _=_;rw[HR.out,hCt];rfl
    clear HK HC HR
    go_wp2_with fail
    refine(akx l hl hmay _ n₀ wr (Nat.le_trans hn₀ hsz) (hin.below hbel hn₀) (by omega) ((hbel.cell (p:=⟨8,15,none⟩) h6).trans ht)).mono ?_
    cases hw:adg l true [] with
    | none=>
     rintro e w2 ⟨rfl,hb2⟩
     have hPR:PR=.error 2:=by rw[HPR.out,hw]
     simp only[am4]
     go_wp2_with fail
     refine bodyPost_ret (acd rfl rfl) rfl ?_
     exact⟨by rw[hPR];rfl,hbel.trans (hb2.mono hsz)⟩
    | some t=>
     rintro e w2 ⟨rfl,hb2⟩
     have hPR:PR=.ok t:=by rw[HPR.out,hw]
     simp only[am4]
     go_wp2_with fail
     refine bodyPost_ret (acd rfl rfl) rfl ?_
     exact⟨by rw[hPR];rfl,hbel.trans (hb2.mono hsz)⟩
theorem ash: ∀(r:List Ent) (acc:List UInt8),acc.length≤65536→adg r false acc=if 65536<(acc++r.flatMap fun y=>10::ahb y).length then none else some (acc++r.flatMap fun y=>10::ahb y):=by
 intro r
 induction r with
 | nil=>intro acc h;simp[adg];omega
 | cons a t ih=>
  intro acc h
  rw[ahz]
  simp only[Bool.false_eq_true,if_false]
  have e:(acc++[10])++ahb a++t.flatMap (fun y=>10::ahb y)=acc++(a::t).flatMap fun y=>10::ahb y:=by simp
  by_cases hl:65536<((acc++[10])++ahb a).length
  ·rw[if_pos hl,if_pos]
   rw[←e,List.length_append]
   omega
  ·rw[if_neg hl,ih _ (by omega),e]
theorem asg (l:List Ent):adg l true []=if 65536<(ad2 l).length then none else some (ad2 l):=by
 cases l with
 | nil=>simp[adg,ad2]
 | cons a t=>
  rw[ahz]
  simp only[if_true,List.nil_append,ad2]
  by_cases hl:65536<(ahb a).length
  ·rw[if_pos hl]
   symm
   apply if_pos
   rw[List.length_append]
   omega
  ·rw[if_neg hl,ash _ _ (by omega)]
   try rfl
theorem ax1: ∀(l:List Ent) (ab:List Int),aea l ab=true↔(∀x∈l,EntOk x)∧akp l∧ ∀x,l.head? =some x→aaj ab x.1<0:=by
 intro l
 induction l with
 | nil=>intro ab;simp[aea,akp]
 | cons a r ih=>
  intro ab
  constructor
  ·intro h
   have hok:=arz _ _ h
   unfold aea at h
   split at h
   ·split at h
    ·split at h
     ·cases h
     ·rename_i hz
      obtain⟨_,h2,h3⟩:=(ih a.1).1 h
      refine⟨hok,List.Pairwise.cons (fun b hb=> ?_) h2,fun x hx=> ?_⟩
      ·cases r with
       | nil=>cases hb
       | cons c t=>
        have hc:=h3 c rfl
        rcases List.mem_cons.1 hb with rfl | hb
        ·exact hc
        ·exact aeb _ _ _ hc ((List.pairwise_cons.1 h2).1 b hb)
      ·simp at hx
       subst hx
       omega
    ·cases h
   ·cases h
  ·rintro⟨h1,h2,h3⟩
   have ha:=h1 a (by simp)
   have hall:ar5 a.2=true:=by
    unfold ar5
    simp only[Bool.and_eq_true,decide_eq_true_eq]
    exact⟨⟨ha.n0,ha.n1⟩,ha.ok⟩
   have h4:=h3 a rfl
   unfold aea
   rw[if_pos ha.row,if_pos hall,if_neg (by omega)]
   refine(ih a.1).2 ⟨fun x hx=>h1 x (by simp[hx]),(List.pairwise_cons.1 h2).2,fun x hx=> ?_⟩
   exact(List.pairwise_cons.1 h2).1 x (List.mem_of_mem_head? hx)
theorem a12 {p:List Int}(h:adp p=true):aaj [] p<0:=by
 have:=(abf h).1
 cases p with
 | nil=>simp at this
 | cons x r=>simp[aaj]
theorem ay8 {l:List Ent}(h1: ∀x∈l,EntOk x)(h2:akp l)(h3:l.length≤4096)(h4:(ad2 l).length≤65536):ai0 l=.ok (ad2 l):=by
 unfold ai0
 rw[if_neg (by omega),if_pos ((ax1 l []).2 ⟨h1,h2,fun x hx=>a12 (h1 x (List.mem_of_mem_head? hx)).row⟩),asg,if_neg (by omega)]
def abv (E:Int→List Int)(l:List Int):List Int:=l.flatMap (aa4 E)
theorem DataAt.plen {w:World}{bd:Nat}{L:List Mk}{E:Int→List Int}(h:DataAt w bd L E)(p:Int):(aa4 E p).length≤57∧0<(aa4 E p).length:=by
 unfold aa4
 cases hs:ab7 p with
 | false=>have:=h.elen p;simp;omega
 | true=>
  simp only[if_true]
  obtain⟨_,h3,h2⟩:=agl hs
  have: ∀ls:List Int,(ls.flatMap (aak E)).length≤19*ls.length∧ls.length≤(ls.flatMap (aak E)).length:=by
   intro ls
   induction ls with
   | nil=>simp
   | cons x r ih=>have:=h.elen x;simp only[List.flatMap_cons,List.length_append,List.length_cons];omega
  have:=this (aa5 p)
  omega
set_option maxHeartbeats 4000000 in
set_option maxRecDepth 20000 in
theorem apr (bd:Nat)(L:List Mk)(E:Int→List Int)(a:Option Addr)(kp cap:Nat)(ps:List Int)(w:World)(hps: ∀q∈ps,InI q)(hd:DataAt w bd L E)(hin:Ints w.heap.size w (.slice a kp cap) ps)(hkp:kp=ps.length)(hkl:(abv E ps).length≤68719476736)(hkl2:kp≤68719476736):
  Calls Tryz.prog 40 #[.pointer (some ⟨bd,0,none⟩),.slice a kp cap] w fun e w'=> ∃g k' c',e=.returned (.slice (some ⟨g,0,none⟩) k' c')∧IOwn w' w.heap.size (.slice (some ⟨g,0,none⟩) k' c') (abv E ps)∧Below w.heap.size w w':=by
 generalize hR:abv E ps=R at hkl⊢
 have HR:Hid ([]++abv E ps=R):=hR
 have HKP:Hid (kp=ps.length):=hkp
 clear hR hkp
 obtain⟨i0,hi0,hz0,hsz0,hby0⟩:=info_parts at1
 have HI0:Hid (i0.bytes=8):=hby0
 clear hby0
 go_enter Tryz.func40,Tryz.ntmps40
 go_wp2_with (first | (at_make;refine wpList_make_own _ rfl _ _ 46 rfl w.heap.size 3 i0 (.int .i64 0) 1 Tryz.underlying46 hi0 hz0 hsz0 .i64 .i64 _ kp rfl rfl rfl (by rw[HI0.out];omega) (by unfold maxLen;omega) (Nat.le_refl _) ?_;intro w0 hown0 hgrow0))
 have hb0:Below w.heap.size w w0:=(Below.refl _ w).grown hgrow0 (Nat.le_refl _) (fun j hj=>by cases hj)
 have HOWN0:Aside (IOwn w0 w.heap.size (.slice (some ⟨w.heap.size,0,none⟩) 0 kp) []):=hown0
 clear hown0 hgrow0 hi0 hz0 hsz0 HI0
 go_wp2_with fail
 go_loopw [5,13] (fun v i wr=> ∃(k:Nat) (acc:List Int) (g kk cc:Nat),k≤kp∧i=.int .i64 k∧v=.slice (some ⟨g,0,none⟩) kk cc∧Aside (IOwn wr w.heap.size (.slice (some ⟨g,0,none⟩) kk cc) acc)∧Hid (acc++abv E (ps.drop k)=R)∧Below w.heap.size w wr) (fun _ i _=>kp-(intOf i).toNat)
 case atStart=>exact⟨0,[],w.heap.size,0,kp,by omega,rfl,rfl,HOWN0,by simpa using HR,hb0⟩
 case round=>
  clear HOWN0 hb0 HR
  obtain⟨k,acc,g,kk,cc,hk,rfl,rfl,HOWN,HK,hbel⟩:=hrel
  by_cases hlt:k<kp
  ·have hltp:k<ps.length:=by rw[←HKP.out];exact hlt
   have hdr:ps.drop k=ps[k]::ps.drop (k+1):=List.drop_eq_getElem_cons hltp
   obtain⟨bp,op,hao,hnk,hblt,hcell⟩:=(hin.below hbel (Nat.le_refl _)).cell (fun e=>by rw[e] at hltp;simp at hltp)
   have hcj:=hcell k hltp
   rw[show ps[k]?.getD 0=ps[k] by simp[List.getElem?_eq_getElem hltp]] at hcj
   have hqI:=hps _ (List.getElem_mem hltp)
   have hKK:=HK.out
   rw[hdr,show abv E (ps[k]::ps.drop (k+1))=aa4 E ps[k]++abv E (ps.drop (k+1)) from rfl,←List.append_assoc] at hKK
   generalize ps[k]=q at hcj hqI hKK
   subst hao
   have hddr:=hd.below hbel
   have HLK:Hid ((acc++aa4 E q).length≤R.length):=by show _≤_;rw[←hKK];exact(List.prefix_append _ _).length_le
   have HKK:Hid ((acc++aa4 E q)++abv E (ps.drop (k+1))=R):=hKK
   clear hcell hdr HK hKK hltp hnk
   go_wp2_with fail
   refine(azg bd L E q _ hqI hddr).mono ?_
   rintro e w3 ⟨a3,k3,c3,rfl,hown3p,hbel3⟩
   have hown3:=aad HOWN.out hbel3
   have hsz3:w.heap.size≤w3.heap.size:=Nat.le_trans hbel.size hbel3.size
   obtain⟨av,cv,hv⟩:=IOwn.val HOWN.out
   have hkk:kk=acc.length:=by simpa using (Value.slice.inj hv).2.1
   have hint3:=hown3p.ints
   obtain⟨av3,cv3,hv3⟩:=hown3p.val
   have hk3:k3=(aa4 E q).length:=by simpa using (Value.slice.inj hv3).2.1
   have hL1:(acc++aa4 E q).length≤R.length:=HLK.out
   rw[List.length_append] at hL1
   have hpos:=hddr.plen q
   generalize aa4 E q=en at HKK HLK hint3 hk3 hL1 hpos
   have hen:en≠ []:=fun e=>by rw[e] at hpos;simp at hpos
   ·obtain⟨b3,o3,hao3,hnk3,hblt3,hcell3⟩:=hint3.cell hen
    subst hao3 hk3 hkk
    have HC3:Hid (∀j,j<en.length→w3.cell? ((⟨b3,o3,none⟩:Addr).add j)=some (.int .i64 (en[j]?.getD 0))):=fun j hj=>by
     rw[show (⟨b3,o3,none⟩:Addr).add j=⟨b3,o3+j,none⟩ by simp[Addr.add]];exact hcell3 j hj
    have hsum:acc.length+en.length≤1099511627776:=by omega
    have HOWN3:Aside (IOwn w3 w.heap.size (.slice (some ⟨g,0,none⟩) acc.length cc) acc):=hown3
    clear hcell3 hint3 hown3p hv hv3 HOWN hown3 hen hnk3 HLK
    go_wp2_with (first | (at_builtin;refine aao rfl _ _ rfl w.heap.size _ acc rfl HOWN3.out en ⟨b3,o3,none⟩ _ rfl HC3.out hsum hsz3 ?_;intro a4 c4 w4 hown4 hgr4 hnil4 hat4;obtain⟨g4,rfl,hg4,hcap4⟩:=hown4.some_of (by rw[List.length_append];omega)))
    have hb4:Below w.heap.size w3 w4:=(Below.refl _ w3).grown hgr4 hsz3 (fun j hj=>(aan HOWN3.out hj).1)
    have HOWN4:Aside (IOwn w4 w.heap.size (.slice (some ⟨g4,0,none⟩) (acc.length+en.length) c4) (acc++en)):=hown4
    clear hown4 hnil4 hat4 hcap4
    go_roundw
    case rel=>exact⟨k+1,acc++en,g4,acc.length+en.length,c4,by omega,by simp,by simp,HOWN4,HKK,(hbel.trans (hbel3.mono hbel.size)).trans hb4⟩
    case measure=>simp only[intOf];omega
  ·have hRR:R=acc:=by rw[←HK.out,List.drop_of_length_le (by rw[←HKP.out];omega)];simp[abv]
   clear HK
   go_wp2_with fail
   go_ret
   rw[hRR]
   exact⟨_,_,_,rfl,HOWN.out,hbel⟩
end Go.Proofs.YtfhpgmlfgjfknaaGreatDoor
namespace Go.Vf
def SortedK (key:Int→Int)(l:List Int):Prop:=l.Pairwise (fun x y=>key x≤key y)
def AlikeK (key:Int→Int)(a b:List Int):Prop:= ∀k,a.filter (fun x=>key x==k)=b.filter (fun x=>key x==k)
theorem AlikeK.refl {key:Int→Int}(a:List Int):AlikeK key a a:=fun _=>rfl
theorem AlikeK.symm {key:Int→Int}{a b:List Int}(h:AlikeK key a b):AlikeK key b a:=fun k=>(h k).symm
theorem AlikeK.trans {key:Int→Int}{a b c:List Int}(h:AlikeK key a b)(g:AlikeK key b c):AlikeK key a c:=fun k=>(h k).trans (g k)
theorem AlikeK.append {key:Int→Int}{a b c d:List Int}(h:AlikeK key a b)(g:AlikeK key c d):AlikeK key (a++c) (b++d):=fun k=>by
 rw[List.filter_append,List.filter_append,h k,g k]
theorem AlikeK.mem {key:Int→Int}{a b:List Int}(h:AlikeK key a b){x:Int}(hx:x∈a):x∈b:=by
 have g:x∈a.filter (fun y=>key y==key x):=List.mem_filter.2 ⟨hx,by simp⟩
 rw[h (key x)] at g
 exact(List.mem_filter.1 g).1
theorem AlikeK.turn {key:Int→Int}{u v:List Int}(h: ∀x∈u,∀y∈v,key x≠key y):AlikeK key (u++v) (v++u):=fun k=>by
 rw[List.filter_append,List.filter_append]
 by_cases hu:u.filter (fun x=>key x==k)=[]
 ·rw[hu];simp
 ·have hv:v.filter (fun x=>key x==k)=[]:=by
   rw[List.filter_eq_nil_iff]
   intro y hy hk
   obtain⟨x,hx⟩:=List.exists_mem_of_ne_nil _ hu
   obtain⟨h1,h2⟩:=List.mem_filter.1 hx
   have e1:key x=k:=by simpa using h2
   have e2:key y=k:=by simpa using hk
   exact h x h1 y hy (e1.trans e2.symm)
  rw[hv];simp
theorem SortedK.append {key:Int→Int}{u v:List Int}(hu:SortedK key u)(hv:SortedK key v)(h: ∀x∈u,∀y∈v,key x≤key y):SortedK key (u++v):=
 List.pairwise_append.2 ⟨hu,hv,h⟩
theorem SortedK.left {key:Int→Int}{u v:List Int}(h:SortedK key (u++v)):SortedK key u:=(List.pairwise_append.1 h).1
theorem SortedK.right {key:Int→Int}{u v:List Int}(h:SortedK key (u++v)):SortedK key v:=(List.pairwise_append.1 h).2.1
theorem SortedK.across {key:Int→Int}{u v:List Int}(h:SortedK key (u++v)): ∀x∈u,∀y∈v,key x≤key y:=(List.pairwise_append.1 h).2.2
theorem SortedK.nil {key:Int→Int}:SortedK key []:=List.Pairwise.nil
theorem SortedK.one {key:Int→Int}{x:Int}:SortedK key [x]:=List.pairwise_singleton _ x
theorem SortedK.at {key:Int→Int}{l:List Int}(h:SortedK key l){i j:Nat}(hij:i≤j)(hj:j<l.length):key (l.getD i 0)≤key (l.getD j 0):=by
 rcases Nat.lt_or_eq_of_le hij with h1 | h1
 ·have hi:i<l.length:=by omega
  have:=List.pairwise_iff_getElem.1 h i j hi hj h1
  simpa[List.getD_eq_getElem?_getD,List.getElem?_eq_getElem hi,List.getElem?_eq_getElem hj] using this
 ·subst h1;exact Int.le_refl _
theorem acy {P A Q:List Int}{i:Nat}(h1:P.length≤i)(h2:i<P.length+A.length):(P++A++Q).getD i 0=A.getD (i-P.length) 0:=by
 rw[List.append_assoc]
 simp only[List.getD_eq_getElem?_getD]
 rw[List.getElem?_append_right h1,List.getElem?_append_left (by omega)]
theorem apa {A:List Int}{x:Int}(h:x∈A): ∃i,i<A.length∧A.getD i 0=x:=by
 obtain⟨i,hi,e⟩:=List.mem_iff_getElem.1 h
 exact⟨i,hi,by simp[List.getD_eq_getElem?_getD,List.getElem?_eq_getElem hi,e]⟩
theorem ahl {A:List Int}{i:Nat}(h:i<A.length):A.getD i 0∈A:=by
 simp[List.getD_eq_getElem?_getD,List.getElem?_eq_getElem h]
theorem azr {key:Int→Int}{x:Int}{B1 B2:List Int}(hB:SortedK key (B1++B2))(h1: ∀y∈B1,key y<key x)(h2: ∀y∈B2,key x≤key y):
  SortedK key (B1++[x]++B2)∧AlikeK key ([x]++(B1++B2)) (B1++[x]++B2):=by
 refine⟨?_,?_⟩
 ·refine SortedK.append (SortedK.append hB.left SortedK.one ?_) hB.right ?_
  ·intro a ha b hb
   rw[List.mem_singleton] at hb
   have:=h1 a ha
   rw[hb];omega
  ·intro a ha b hb
   rcases List.mem_append.1 ha with ha | ha
   ·exact hB.across a ha b hb
   ·rw[List.mem_singleton] at ha;rw[ha];exact h2 b hb
 ·rw[←List.append_assoc]
  refine AlikeK.append (AlikeK.turn ?_) (AlikeK.refl _)
  intro a ha b hb
  rw[List.mem_singleton] at ha
  have:=h1 b hb
  rw[ha];omega
theorem aw1 {key:Int→Int}{x:Int}{A1 A2:List Int}(hA:SortedK key (A1++A2))(h1: ∀y∈A1,key y≤key x)(h2: ∀y∈A2,key x<key y):
  SortedK key (A1++[x]++A2)∧AlikeK key (A1++A2++[x]) (A1++[x]++A2):=by
 refine⟨?_,?_⟩
 ·refine SortedK.append (SortedK.append hA.left SortedK.one ?_) hA.right ?_
  ·intro a ha b hb
   rw[List.mem_singleton] at hb
   rw[hb];exact h1 a ha
  ·intro a ha b hb
   rcases List.mem_append.1 ha with ha | ha
   ·exact hA.across a ha b hb
   ·rw[List.mem_singleton] at ha
    have:=h2 b hb
    rw[ha];omega
 ·rw[List.append_assoc,List.append_assoc]
  refine AlikeK.append (AlikeK.refl _) (AlikeK.turn ?_)
  intro a ha b hb
  rw[List.mem_singleton] at hb
  have:=h2 a ha
  rw[hb];omega
theorem aqw {key:Int→Int}{A1 A2 B1 B2 C1 C2:List Int}(hA:SortedK key (A1++A2))(hB:SortedK key (B1++B2))
  (hlo: ∀u∈A2,∀v∈B1,key v<key u) (hhi: ∀u∈A1,∀v∈B2,key u≤key v)
  (s1:SortedK key C1) (a1:AlikeK key (A1++B1) C1) (s2:SortedK key C2) (a2:AlikeK key (A2++B2) C2):
  SortedK key (C1++C2)∧AlikeK key (A1++A2++(B1++B2)) (C1++C2):=by
 refine⟨?_,?_⟩
 ·refine SortedK.append s1 s2 ?_
  intro x hx y hy
  rcases List.mem_append.1 (a1.symm.mem hx) with hx | hx<;>rcases List.mem_append.1 (a2.symm.mem hy) with hy | hy
  ·exact hA.across x hx y hy
  ·exact hhi x hx y hy
  ·have:=hlo y hy x hx;omega
  ·exact hB.across x hx y hy
 ·refine AlikeK.trans ?_ (AlikeK.append a1 a2)
  have e1:A1++A2++(B1++B2)=A1++((A2++B1)++B2):=by simp
  have e2:A1++B1++(A2++B2)=A1++((B1++A2)++B2):=by simp
  rw[e1,e2]
  refine AlikeK.append (AlikeK.refl _) (AlikeK.append (AlikeK.turn ?_) (AlikeK.refl _))
  intro x hx y hy
  have:=hlo x hx y hy
  omega
theorem atz {key:Int→Int}{U V:List Int}{x y:Int}(hs:SortedK key (U++[y]++V))(hv: ∀v∈V,key x<key v)(hy:key x<key y):
  (∀v∈[y]++V,key x<key v)∧SortedK key (U++([y]++V))∧AlikeK key (U++[y]++[x]++V) (U++[x]++([y]++V)):=by
 refine⟨?_,by rw[←List.append_assoc];exact hs,?_⟩
 ·intro v h
  rcases List.mem_append.1 h with h | h
  ·rw[List.mem_singleton] at h;rw[h];exact hy
  ·exact hv v h
 ·have e1:U++[y]++[x]++V=U++(([y]++[x])++V):=by simp
  have e2:U++[x]++([y]++V)=U++(([x]++[y])++V):=by simp
  rw[e1,e2]
  refine AlikeK.append (AlikeK.refl _) (AlikeK.append (AlikeK.turn ?_) (AlikeK.refl _))
  intro a ha b hb
  rw[List.mem_singleton] at ha hb
  rw[ha,hb];omega
theorem alw {key:Int→Int}{U V:List Int}{x:Int}(hs:SortedK key (U++V))(hv: ∀v∈V,key x<key v)(hu: ∀u∈U,key u≤key x):
  SortedK key (U++[x]++V):=by
 refine SortedK.append (SortedK.append hs.left SortedK.one ?_) hs.right ?_
 ·intro a ha b hb
  rw[List.mem_singleton] at hb;rw[hb];exact hu a ha
 ·intro a ha b hb
  rcases List.mem_append.1 ha with ha | ha
  ·exact hs.across a ha b hb
  ·rw[List.mem_singleton] at ha
   have:=hv b hb
   rw[ha];omega
def CO (cls:Int→Int):List Int→Prop
 | []=>True
 | [_]=>True
 | x::y::t=>(cls y≠0→cls x≤cls y)∧CO cls (y::t)
def Alike0 (cls:Int→Int)(a b:List Int):Prop:= ∀k,a.filter (fun x=>cls x==0||cls x==k)=b.filter (fun x=>cls x==0||cls x==k)
theorem Alike0.refl {cls:Int→Int}(a:List Int):Alike0 cls a a:=fun _=>rfl
theorem Alike0.symm {cls:Int→Int}{a b:List Int}(h:Alike0 cls a b):Alike0 cls b a:=fun k=>(h k).symm
theorem Alike0.trans {cls:Int→Int}{a b c:List Int}(h:Alike0 cls a b)(g:Alike0 cls b c):Alike0 cls a c:=fun k=>(h k).trans (g k)
theorem Alike0.append {cls:Int→Int}{a b c d:List Int}(h:Alike0 cls a b)(g:Alike0 cls c d):Alike0 cls (a++c) (b++d):=fun k=>by
 rw[List.filter_append,List.filter_append,h k,g k]
theorem CO.tail {cls:Int→Int}{x:Int}{t:List Int}(h:CO cls (x::t)):CO cls t:=by
 cases t with
 | nil=>trivial
 | cons y t=>exact h.2
theorem CO.first {cls:Int→Int}: ∀ {t:List Int} {y x:Int} {r:List Int} {k:Int},CO cls (y::t)→t.filter (fun z=>cls z==0||cls z==k)=x::r→cls x≠0→cls y≤cls x:=by
 intro t
 induction t with
 | nil=>intro y x r k _ h _;simp at h
 | cons z t ih=>
  intro y x r k hc h hx
  by_cases hz:(cls z==0||cls z==k)=true
  ·rw[List.filter_cons_of_pos (p:=fun z=>cls z==0||cls z==k) hz] at h
   have e:=(List.cons.inj h).1
   rw[←e]
   rw[←e] at hx
   exact hc.1 hx
  ·rw[List.filter_cons_of_neg (p:=fun z=>cls z==0||cls z==k) hz] at h
   have h0:cls z≠0:=fun e=>hz (by simp[e])
   have g1:=hc.1 h0
   have g2:=ih hc.2 h hx
   omega
theorem aoj {cls:Int→Int}{b:List Int}(h:Alike0 cls [] b):b=[]:=by
 cases b with
 | nil=>rfl
 | cons y t=>
  have:=h (cls y)
  rw[List.filter_cons_of_pos (by simp)] at this
  simp at this
theorem CO.same {cls:Int→Int}: ∀ {a b:List Int},CO cls a→CO cls b→Alike0 cls a b→a=b:=by
 intro a
 induction a with
 | nil=>intro b _ _ h;exact(aoj h).symm
 | cons x s ih=>
  intro b ha hb h
  cases b with
  | nil=>exact absurd (aoj h.symm) (by simp)
  | cons y t=>
   have hxy:x=y:=by
    have hx:=h (cls x)
    have hy:=h (cls y)
    rw[List.filter_cons_of_pos (by simp)] at hx
    rw[List.filter_cons_of_pos (l:=t) (a:=y) (by simp)] at hy
    by_cases c1:cls x=0
    ·rw[List.filter_cons_of_pos (by simp[c1])] at hy
     exact(List.cons.inj hy).1
    by_cases c2:cls y=0
    ·rw[List.filter_cons_of_pos (l:=t) (by simp[c2])] at hx
     exact(List.cons.inj hx).1
    by_cases c3:cls x=cls y
    ·rw[List.filter_cons_of_pos (l:=t) (by simp[c3])] at hx
     exact(List.cons.inj hx).1
    exfalso
    rw[List.filter_cons_of_neg (l:=t) (by simp[c2];exact fun e=>c3 e.symm)] at hx
    rw[List.filter_cons_of_neg (l:=s) (by simp[c1];exact c3)] at hy
    have g1:=hb.first hx.symm c1
    have g2:=ha.first hy c2
    omega
   subst hxy
   congr 1
   refine ih ha.tail hb.tail (fun k=> ?_)
   have g:=h k
   by_cases hk:(cls x==0||cls x==k)=true
   ·rw[List.filter_cons_of_pos (p:=fun z=>cls z==0||cls z==k) hk,List.filter_cons_of_pos (p:=fun z=>cls z==0||cls z==k) hk] at g
    exact(List.cons.inj g).2
   ·rw[List.filter_cons_of_neg (p:=fun z=>cls z==0||cls z==k) hk,List.filter_cons_of_neg (p:=fun z=>cls z==0||cls z==k) hk] at g
    exact g
theorem CO.append {cls:Int→Int}: ∀ {u v:List Int},CO cls u→CO cls v→(∀x y,u.getLast? =some x→v.head? =some y→cls y≠0→cls x≤cls y)→CO cls (u++v):=by
 intro u
 induction u with
 | nil=>intro v _ hv _;exact hv
 | cons x s ih=>
  intro v hu hv h
  cases s with
  | nil=>
   cases v with
   | nil=>trivial
   | cons y t=>exact⟨h x y rfl rfl,hv⟩
  | cons z s=>
   refine⟨hu.1,?_⟩
   exact ih hu.2 hv (fun a b ha hb=>h a b (by rw[List.getLast?_cons_cons];exact ha) hb)
theorem CO.left {cls:Int→Int}: ∀ {u v:List Int},CO cls (u++v)→CO cls u:=by
 intro u
 induction u with
 | nil=>intro _ _;trivial
 | cons x s ih=>
  intro v h
  cases s with
  | nil=>trivial
  | cons z s=>exact⟨h.1,ih h.2⟩
theorem CO.right {cls:Int→Int}: ∀ {u v:List Int},CO cls (u++v)→CO cls v:=by
 intro u
 induction u with
 | nil=>intro _ h;exact h
 | cons x s ih=>intro v h;exact ih (CO.tail h)
theorem SortedK.co {cls:Int→Int}: ∀ {l:List Int},SortedK cls l→CO cls l:=by
 intro l
 induction l with
 | nil=>intro _;trivial
 | cons x s ih=>
  intro h
  cases s with
  | nil=>trivial
  | cons y t=>exact⟨fun _=>(List.pairwise_cons.1 h).1 y (by simp),ih (List.pairwise_cons.1 h).2⟩
theorem AlikeK.alike0 {cls:Int→Int}{a b:List Int}(h:AlikeK cls a b)(hn: ∀x∈a,cls x≠0):Alike0 cls a b:=fun k=>by
 have hb: ∀x∈b,cls x≠0:=fun x hx=>hn x (h.symm.mem hx)
 have e: ∀l:List Int,(∀x∈l,cls x≠0)→l.filter (fun x=>cls x==0||cls x==k)=l.filter (fun x=>cls x==k):=fun l hl=>by
  refine List.filter_congr (fun x hx=> ?_)
  have:=hl x hx
  simp[this]
 rw[e a hn,e b hb]
 exact h k
structure FormOf (cls:Int→Int)(l X:List Int):Prop where
 co:CO cls X
 al:Alike0 cls l X
theorem FormOf.same {cls:Int→Int}{l X Y:List Int}(h:FormOf cls l X)(g:FormOf cls l Y):X=Y:=CO.same h.co g.co (h.al.symm.trans g.al)
structure Blocks (key:Int→Int)(bs:Nat)(d:List Int)(Bs:List (List Int))(R:List Int):Prop where
 is:d=Bs.flatten++R
 each: ∀B∈Bs,B.length=bs∧SortedK key B
 less:R.length<bs
 rest:SortedK key R
theorem ahs {key:Int→Int}{bs:Nat}: ∀ {Bs:List (List Int)},(∀B∈Bs,B.length=bs∧SortedK key B)→Bs.flatten.length=Bs.length*bs:=by
 intro Bs
 induction Bs with
 | nil=>intro _;simp
 | cons B Bs ih=>
  intro h
  rw[List.flatten_cons,List.length_append,(h B (by simp)).1,ih (fun C hC=>h C (by simp[hC])),List.length_cons,Nat.add_mul]
  omega
theorem Blocks.done {key:Int→Int}{bs:Nat}{d:List Int}{Bs:List (List Int)}{R:List Int}(h:Blocks key bs d Bs R)(hn:d.length≤bs):SortedK key d:=by
 have e:d.length=Bs.length*bs+R.length:=by rw[h.is,List.length_append,ahs h.each]
 have hb:0<bs:=Nat.lt_of_le_of_lt (Nat.zero_le _) h.less
 rcases Bs with _ | ⟨B,_ | ⟨C,Bs⟩⟩
 ·rw[h.is];simpa using h.rest
 ·have hR:R=[]:=List.length_eq_zero_iff.1 (by simp at e;omega)
  rw[h.is,hR];simpa using (h.each B (by simp)).2
 ·exfalso
  simp only[List.length_cons] at e
  have:2*bs≤(Bs.length+1+1)*bs:=Nat.mul_le_mul_right _ (by omega)
  omega
theorem aze {p:Int→Prop}{P A Q:List Int}(h: ∀t,P.length≤t→t<P.length+A.length→p ((P++A++Q).getD t 0)): ∀x∈A,p x:=fun x hx=>by
 obtain⟨i,hi,e⟩:=apa hx
 have:=h (P.length+i) (by omega) (by omega)
 rw[acy (by omega) (by omega),Nat.add_sub_cancel_left,e] at this
 exact this
theorem air {key:Int→Int}{A1 A2:List Int}(h:SortedK key (A1++A2)){j:Nat}(hj:j+1=A1.length): ∀x∈A1,key x≤key ((A1++A2).getD j 0):=fun x hx=>by
 obtain⟨i,hi,e⟩:=apa hx
 have g:=h.at (i:=i) (j:=j) (by omega) (by rw[List.length_append];omega)
 have e2:(A1++A2).getD i 0=x:=by
  rw[←e]
  simp only[List.getD_eq_getElem?_getD]
  rw[List.getElem?_append_left hi]
 rw[e2] at g
 exact g
theorem ais {key:Int→Int}{A1 A2:List Int}(h:SortedK key (A1++A2)){j:Nat}(hj:j=A1.length): ∀x∈A2,key ((A1++A2).getD j 0)≤key x:=fun x hx=>by
 obtain⟨i,hi,e⟩:=apa hx
 have g:=h.at (i:=j) (j:=A1.length+i) (by omega) (by rw[List.length_append];omega)
 have e2:(A1++A2).getD (A1.length+i) 0=x:=by
  rw[←e]
  simp only[List.getD_eq_getElem?_getD]
  rw[List.getElem?_append_right (by omega),Nat.add_sub_cancel_left]
 rw[e2] at g
 exact g
theorem a3a {key:Int→Int}{x:Int}{P B Q:List Int}{i:Nat}(hB:SortedK key B)(h1:P.length≤i)(h2:i≤P.length+B.length)
  (lo:P.length<i→key ((P++B++Q).getD (i-1) 0)<key x) (hi:i<P.length+B.length→key x≤key ((P++B++Q).getD i 0)):
  (∀y∈B.take (i-P.length),key y<key x)∧(∀y∈B.drop (i-P.length),key x≤key y):=by
 have hs:SortedK key (B.take (i-P.length)++B.drop (i-P.length)):=by rw[List.take_append_drop];exact hB
 refine⟨fun y hy=> ?_,fun y hy=> ?_⟩
 ·have hlen:0<(B.take (i-P.length)).length:=List.length_pos_of_mem hy
  rw[List.length_take] at hlen
  have g:=lo (by omega)
  rw[acy (by omega) (by omega)] at g
  have:=air hs (j:=i-1-P.length) (by rw[List.length_take];omega) y hy
  rw[List.take_append_drop] at this
  omega
 ·have hlen:0<(B.drop (i-P.length)).length:=List.length_pos_of_mem hy
  rw[List.length_drop] at hlen
  have g:=hi (by omega)
  rw[acy (by omega) (by omega)] at g
  have:=ais hs (j:=i-P.length) (by rw[List.length_take];omega) y hy
  rw[List.take_append_drop] at this
  omega
theorem azi {key:Int→Int}{x:Int}{P A Q:List Int}{i:Nat}(hA:SortedK key A)(h1:P.length≤i)(h2:i≤P.length+A.length)
  (lo:P.length<i→key ((P++A++Q).getD (i-1) 0)≤key x) (hi:i<P.length+A.length→key x<key ((P++A++Q).getD i 0)):
  (∀y∈A.take (i-P.length),key y≤key x)∧(∀y∈A.drop (i-P.length),key x<key y):=by
 have hs:SortedK key (A.take (i-P.length)++A.drop (i-P.length)):=by rw[List.take_append_drop];exact hA
 refine⟨fun y hy=> ?_,fun y hy=> ?_⟩
 ·have hlen:0<(A.take (i-P.length)).length:=List.length_pos_of_mem hy
  rw[List.length_take] at hlen
  have g:=lo (by omega)
  rw[acy (by omega) (by omega)] at g
  have:=air hs (j:=i-1-P.length) (by rw[List.length_take];omega) y hy
  rw[List.take_append_drop] at this
  omega
 ·have hlen:0<(A.drop (i-P.length)).length:=List.length_pos_of_mem hy
  rw[List.length_drop] at hlen
  have g:=hi (by omega)
  rw[acy (by omega) (by omega)] at g
  have:=ais hs (j:=i-P.length) (by rw[List.length_take];omega) y hy
  rw[List.take_append_drop] at this
  omega
theorem a29 {key:Int→Int}{P A B Q:List Int}{a m b mid s lo hi:Nat}(hA:SortedK key A)(hB:SortedK key B)(ha:P.length=a)(hm:a+A.length=m)(hb:m+B.length=b)
  (hmid:mid=(a+b)/2) (hlo:lo=if mid<m then mid+m-b else a) (hhi:hi=if mid<m then mid else m) (h1:lo≤s) (h2:s≤hi)
  (g1:s<hi→key ((P++A++B++Q).getD (mid+m-1-s) 0)<key ((P++A++B++Q).getD s 0))
  (g2:lo<s→key ((P++A++B++Q).getD (s-1) 0)≤key ((P++A++B++Q).getD (mid+m-s) 0)):
  ∃A1 A2 B1 B2,A=A1++A2∧B=B1++B2∧a+A1.length=s∧m+B1.length=mid+m-s∧a≤s∧s≤m∧m≤mid+m-s∧mid+m-s≤b∧
   (∀u∈A2,∀v∈B1,key v<key u)∧(∀u∈A1,∀v∈B2,key u≤key v):=by
 have f1:a≤s:=by split at hlo<;>omega
 have f2:s≤m:=by split at hhi<;>omega
 have f3:m≤mid+m-s:=by split at hhi<;>omega
 have f4:mid+m-s≤b:=by split at hlo<;>omega
 have q1: ∀t,a≤t→t<m→(P++A++B++Q).getD t 0=A.getD (t-a) 0:=fun t h1 h2=>by
  rw[List.append_assoc (P++A)]
  rw[acy (by omega) (by omega),ha]
 have q2: ∀t,m≤t→t<b→(P++A++B++Q).getD t 0=B.getD (t-m) 0:=fun t h1 h2=>by
  rw[acy (by rw[List.length_append];omega) (by rw[List.length_append];omega),List.length_append,ha,hm]
 have hsA:SortedK key (A.take (s-a)++A.drop (s-a)):=by rw[List.take_append_drop];exact hA
 have hsB:SortedK key (B.take (mid-s)++B.drop (mid-s)):=by rw[List.take_append_drop];exact hB
 refine⟨A.take (s-a),A.drop (s-a),B.take (mid-s),B.drop (mid-s),(List.take_append_drop _ _).symm,(List.take_append_drop _ _).symm,?_,?_,f1,f2,f3,f4,?_,?_⟩
 ·rw[List.length_take];omega
 ·rw[List.length_take];omega
 ·intro u hu v hv
  have l1:0<(A.drop (s-a)).length:=List.length_pos_of_mem hu
  have l2:0<(B.take (mid-s)).length:=List.length_pos_of_mem hv
  rw[List.length_drop] at l1
  rw[List.length_take] at l2
  have g:=g1 (by split at hhi<;>omega)
  rw[q1 s (by omega) (by omega),q2 (mid+m-1-s) (by omega) (by omega)] at g
  have e1:=ais hsA (j:=s-a) (by rw[List.length_take];omega) u hu
  have e2:=air hsB (j:=mid+m-1-s-m) (by rw[List.length_take];omega) v hv
  rw[List.take_append_drop] at e1 e2
  omega
 ·intro u hu v hv
  have l1:0<(A.take (s-a)).length:=List.length_pos_of_mem hu
  have l2:0<(B.drop (mid-s)).length:=List.length_pos_of_mem hv
  rw[List.length_take] at l1
  rw[List.length_drop] at l2
  have g:=g2 (by split at hlo<;>omega)
  rw[q1 (s-1) (by omega) (by omega),q2 (mid+m-s) (by omega) (by omega)] at g
  have e1:=air hsA (j:=s-1-a) (by rw[List.length_take];omega) u hu
  have e2:=ais hsB (j:=mid+m-s-m) (by rw[List.length_take];omega) v hv
  rw[List.take_append_drop] at e1 e2
  omega
end Go.Vf
