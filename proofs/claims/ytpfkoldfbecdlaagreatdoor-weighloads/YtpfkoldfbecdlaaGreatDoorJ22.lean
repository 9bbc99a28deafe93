/- Contracts and lemmas (nothing is claimed here). -/
import Derived.Test.YtpfkoldfbecdlaaGreatDoorJ21
namespace Go.Proofs.YtpfkoldfbecdlaaGreatDoor
open Go.RowKit Go.Vf Go.Maps
def ade:List Ent→Bool→List UInt8→Option (List UInt8)
 | [],_,acc=>some acc
 | x::r,f,acc=>if 65536<((if f then acc else acc++[10])++agu x).length then none else ade r false ((if f then acc else acc++[10])++agu x)
theorem ahz (x:Ent)(r:List Ent)(f:Bool)(acc:List UInt8):ade (x::r) f acc=if 65536<((if f then acc else acc++[10])++agu x).length then none else ade r false ((if f then acc else acc++[10])++agu x):=rfl
def abg:List Ent→List Int→Bool
 | [],_=>true
 | x::r,ab=>if ac9 x.1=true then if an1 x.2=true then if 0≤aag ab x.1 then false else abg r x.1 else false else false
def aez (l:List Ent):Except Int (List UInt8):=if 4096<l.length then .error 2 else if abg l []=true then (match ade l true [] with
 | none=>.error 2
 | some t=>.ok t) else .error 1
theorem al4: ∀(l:List Ent) (ab:List Int),abg l ab=true→ ∀x∈l,EntOk x:=by
 intro l
 induction l with
 | nil=>intro _ _ x hx;cases hx
 | cons a r ih=>
  intro ab h x hx
  unfold abg at h
  split at h
  ·rename_i h1
   split at h
   ·rename_i h2
    split at h
    ·cases h
    ·rcases List.mem_cons.1 hx with rfl | hx
     ·unfold an1 at h2
      simp only[Bool.and_eq_true,decide_eq_true_eq] at h2
      exact⟨h1,h2.1.1,h2.1.2,h2.2⟩
     ·exact ih _ h x hx
   ·cases h
  ·cases h
theorem afr {tmps:Array Value}{w:World}{a b:Value}(t2:tmps[2]?.getD undef=a)(t3:tmps[3]?.getD undef=b):(results Tryz.f64 tmps).run Tryz.prog w=.ok (.tuple #[a,b]) w:=by
 simp[results,Tryz.results64,go_sem,t2,t3]
theorem ab9 {tmps:Array Value}{w:World}{a b:Value}(t2:tmps[2]?.getD undef=a)(t3:tmps[3]?.getD undef=b):(results Tryz.f23 tmps).run Tryz.prog w=.ok (.tuple #[a,b]) w:=by
 simp[results,Tryz.results23,go_sem,t2,t3]
set_option maxHeartbeats 4000000 in
set_option maxRecDepth 20000 in
theorem akp (l:List Ent)(hl:l.length≤4096)(hmay: ∀x∈l,EntOk x)(v:Value)(n₀:Nat)(w:World)(hn₀:n₀≤w.heap.size)(hin:EIn n₀ w v l)(h6:8<w.heap.size)(ht:w.cell? ⟨8,15,none⟩=some (.int .u8 4)):
  Calls Tryz.prog 64 #[v] w fun e w'=>e=amt (ade l true [])∧Below w.heap.size w w':=by
 obtain⟨a,cap,rfl⟩:=hin.val
 generalize hR:ade l true []=R
 have HR:Hid (ade l true []=R):=hR
 clear hR
 go_enter Tryz.func64,Tryz.ntmps64
 go_wp2_with fail
 go_loopw [4,9] (fun v i wr=> ∃(k:Nat) (acc:List UInt8),k≤l.length∧i=.int .i64 k∧BOwn 5 wr w.heap.size v acc∧acc.length≤65536∧Hid (ade (l.drop k) (decide (k=0)) acc=R)∧Below w.heap.size w wr∧w.heap.size≤wr.heap.size) (fun _ i _=>l.length-(intOf i).toNat)
 case atStart=>exact⟨0,[],by omega,rfl,BOwn.nil _ _ _,by simp,by simpa using HR,Below.refl _ _,Nat.le_refl _⟩
 case round=>
  clear HR
  obtain⟨k,acc,hk,rfl,hown,hal,HK,hbel,hsz⟩:=hrel
  by_cases hlt:k<l.length
  ·have hd:l.drop k=l[k]::l.drop (k+1):=List.drop_eq_getElem_cons hlt
   obtain⟨b,off,rfl,pa,pc,ea,ec,c0,c1,hpi,hei⟩:=(hin.below hbel hn₀).at hlt
   have hm:=hmay _ (List.getElem_mem hlt)
   have hKK:=HK.out
   rw[hd,ahz] at hKK
   generalize l[k]=mm at c0 c1 hpi hei hm hKK
   obtain⟨p,es⟩:=mm
   simp only at c0 c1 hpi hei
   have hb1:=hbel.alloc hsz (.cells #[.slice pa p.length pc,.slice ea es.length ec] 128)
   have hbn:=Blk.new wr 128 #[.slice pa p.length pc,.slice ea es.length ec]
   have hown1:=BOwn.alloc hown (.cells #[.slice pa p.length pc,.slice ea es.length ec] 128)
   have hsz1:w.heap.size≤(wr.alloc (.cells #[.slice pa p.length pc,.slice ea es.length ec] 128)).heap.size:=by simp;omega
   have hpi1:=Ints.below ((Below.refl w.heap.size wr).alloc hsz (.cells #[.slice pa p.length pc,.slice ea es.length ec] 128)) hn₀ hpi
   have hei1:=hei.below ((Below.refl w.heap.size wr).alloc hsz (.cells #[.slice pa p.length pc,.slice ea es.length ec] 128)) hn₀
   clear HK hd
   have HKK:Hid ((if 65536<((if decide (k=0)=true then acc else acc++[10])++agu (p,es)).length then none else ade (l.drop (k+1)) false ((if decide (k=0)=true then acc else acc++[10])++agu (p,es)))=R):=hKK
   clear hKK
   go_upto_region 5 with fail
   generalize wr.alloc (.cells #[.slice pa p.length pc,.slice ea es.length ec] 128)=W at hb1 hbn hown1 hsz1 hpi1 hei1⊢
   have e0:=hbn.cell 0
   have e1:=hbn.cell 1
   by_cases hk0:0<k
   ·have hdk:decide (k=0)=false:=by simp;omega
    rw[hdk] at HKK
    simp only[Bool.false_eq_true,if_false] at HKK
    go_wp2_with (at_builtin;refine aao rfl _ _ rfl w.heap.size _ acc rfl hown1 10 10 rfl _ rfl (by omega) hsz1 W (Below.refl _ _) (KO.refl _) ?_;intro v2 w2 hown2 hb2 hsz2 hko2;have hbn2:=hko2 _ _ _ (by decide) hbn;have g0:=Blk.cell hbn2 0;have g1:=Blk.cell hbn2 1)
    refine(ag9 p es hm w.heap.size n₀ hn₀ pa pc ea ec v2 _ w2 hown2 (by simp;omega) hsz2 h6 (((hb1.trans hb2).cell (p:=⟨8,15,none⟩) h6).trans ht) (Ints.below hb2 hn₀ hpi1) (hei1.below hb2 hn₀)).mono ?_
    rintro e w3 ⟨v3,rfl,hown3,hb3,hsz3,hko3⟩
    generalize (acc++[10])++agu (p,es)=acc3 at hown3 HKK
    obtain⟨a3,c3,rfl⟩:=aa7 hown3
    have hbel3:=(hb1.trans hb2).trans hb3
    by_cases hL:65536<acc3.length
    ·have hRn:R=none:=by rw[←HKK.out,if_pos hL]
     go_wp2_with fail
     refine bodyPost_ret (afr rfl rfl) rfl ?_
     exact⟨by rw[hRn];rfl,hbel3⟩
    ·have HK3:Hid (ade (l.drop (k+1)) false acc3=R):=by
      have h:=HKK.out
      rw[if_neg hL] at h
      exact h
     go_wp2_with fail
     go_roundw
     case rel=>exact⟨k+1,acc3,by omega,by simp,hown3,by omega,by simpa using HK3,hbel3,hsz3⟩
     case measure=>simp only[intOf];omega
   ·have hdk:decide (k=0)=true:=by simp;omega
    rw[hdk] at HKK
    simp only[if_true] at HKK
    have hk00:decide ((0:Int)<(k:Int))=false:=by simp;omega
    go_wp2_with fail
    refine(ag9 p es hm w.heap.size n₀ hn₀ pa pc ea ec _ _ W hown1 (by omega) hsz1 h6 ((hb1.cell (p:=⟨8,15,none⟩) h6).trans ht) hpi1 hei1).mono ?_
    rintro e w3 ⟨v3,rfl,hown3,hb3,hsz3,hko3⟩
    generalize acc++agu (p,es)=acc3 at hown3 HKK
    obtain⟨a3,c3,rfl⟩:=aa7 hown3
    have hbel3:=hb1.trans hb3
    by_cases hL:65536<acc3.length
    ·have hRn:R=none:=by rw[←HKK.out,if_pos hL]
     go_wp2_with fail
     refine bodyPost_ret (afr rfl rfl) rfl ?_
     exact⟨by rw[hRn];rfl,hbel3⟩
    ·have HK3:Hid (ade (l.drop (k+1)) false acc3=R):=by
      have h:=HKK.out
      rw[if_neg hL] at h
      exact h
     go_wp2_with fail
     go_roundw
     case rel=>exact⟨k+1,acc3,by omega,by simp,hown3,by omega,by simpa using HK3,hbel3,hsz3⟩
     case measure=>simp only[intOf];omega
  ·have hRs:R=some acc:=by rw[←HK.out,List.drop_of_length_le (by omega)];rfl
   have hcv:=acp (P:=Tryz.prog) wr 78 9 5 Tryz.underlying78 Tryz.underlying5 Tryz.underlying9 w.heap.size _ acc hown
   obtain⟨a3,c3,rfl⟩:=aa7 hown
   clear HK
   go_wp2_with fail
   refine bodyPost_ret (afr rfl rfl) rfl ?_
   exact⟨by rw[hRs];rfl,hbel⟩
set_option maxHeartbeats 4000000 in
set_option maxRecDepth 20000 in
theorem avu (l:List Ent)(hll:l.length≤4611686018427387904)(hpl: ∀x∈l,x.1.length≤4611686018427387904∧x.2.length≤4611686018427387904)(v:Value)(n₀:Nat)(w:World)(hn₀:n₀≤w.heap.size)(hin:EIn n₀ w v l)(h6:8<w.heap.size)(ht:w.cell? ⟨8,15,none⟩=some (.int .u8 4)):
  Calls Tryz.prog 23 #[v] w fun e w'=>e=ahw (aez l)∧Below w.heap.size w w':=by
 by_cases hlong:4096<l.length
 ·obtain⟨a,cap,rfl⟩:=hin.val
  have hR:aez l=.error 2:=by unfold aez;rw[if_pos hlong]
  rw[hR]
  go_enter Tryz.func23,Tryz.ntmps23
  go_wp2_with fail
  refine bodyPost_ret (ab9 rfl rfl) rfl ?_
  exact⟨rfl,Below.refl _ _⟩
 ·have hl:l.length≤4096:=by omega
  have hR:aez l=if abg l []=true then (match ade l true [] with
   | none=>.error 2
   | some t=>.ok t) else .error 1:=by unfold aez;rw[if_neg hlong]
  generalize aez l=PR at hR
  generalize hC:abg l []=C at hR
  have HC:Hid (abg l []=C):=hC
  have HR:Hid (PR=if C=true then (match ade l true [] with
   | none=>.error 2
   | some t=>.ok t) else .error 1):=hR
  clear hR hC
  obtain⟨a,cap,rfl⟩:=hin.val
  go_enter Tryz.func23,Tryz.ntmps23
  go_wp2_with fail
  go_loopw [4,14] (fun x i wr=> ∃(k:Nat) (ab:List Int),k≤l.length∧i=.int .i64 k∧Ints n₀ w x ab∧ab.length≤4611686018427387904∧Hid (abg (l.drop k) ab=C)∧Below w.heap.size w wr∧w.heap.size≤wr.heap.size) (fun _ i _=>l.length-(intOf i).toNat)
  case atStart=>exact⟨0,[],by omega,rfl,.inl ⟨_,_,rfl,rfl⟩,by simp,by simpa using HC,Below.refl _ _,Nat.le_refl _⟩
  case round=>
   obtain⟨k,ab,hk,rfl,hab,habl,HK,hbel,hsz⟩:=hrel
   obtain⟨xa,xc,hxv⟩:=ahg hab
   subst hxv
   by_cases hlt:k<l.length
   ·have hd:l.drop k=l[k]::l.drop (k+1):=List.drop_eq_getElem_cons hlt
    obtain⟨b,off,rfl,pa,pc,ea,ec,d0,d1,hpi0,hei0⟩:=hin.at hlt
    have c0:=(hbel.cell (p:=⟨b,off+k*2,none⟩) (World.block_lt_of_cell? w _ d0)).trans d0
    have c1:=(hbel.cell (p:=⟨b,off+k*2+1,none⟩) (World.block_lt_of_cell? w _ d1)).trans d1
    have hml:=hpl _ (List.getElem_mem hlt)
    have hKK:=HK.out
    rw[hd,abg] at hKK
    generalize l[k]=mm at c0 c1 d0 d1 hpi0 hei0 hml hKK
    obtain⟨p,es⟩:=mm
    simp only at c0 c1 hpi0 hei0 hml hKK
    have HKK:Hid ((if ac9 p=true then if an1 es=true then if 0≤aag ab p then false else abg (l.drop (k+1)) p else false else false)=C):=hKK
    have hb1:=hbel.alloc hsz (.cells #[.slice pa p.length pc,.slice ea es.length ec] 128)
    have hbn:=Blk.new wr 128 #[.slice pa p.length pc,.slice ea es.length ec]
    have hsz1:w.heap.size≤(wr.alloc (.cells #[.slice pa p.length pc,.slice ea es.length ec] 128)).heap.size:=by simp;omega
    clear hKK HK hd HC d0 d1
    go_upto_region 7 with fail
    generalize wr.alloc (.cells #[.slice pa p.length pc,.slice ea es.length ec] 128)=W at hb1 hbn hsz1⊢
    have e0:=hbn.cell 0
    have e1:=hbn.cell 1
    go_wp2_with fail
    refine(ak1 n₀ _ p W (by omega) (Ints.below hb1 hn₀ hpi0) hml.1).mono ?_
    cases hrw:ac9 p with
    | false=>
     rw[hrw] at HKK
     have hCf:C=false:=by rw[←HKK.out];rfl
     have hPR:PR=.error 1:=by rw[HR.out,hCf];rfl
     rintro e w2 ⟨rfl,hb2⟩
     rw[show aut p=.tuple #[.agg #[.int .i64 0,.int .i64 0,.int .i64 0,.int .i64 0,.int .i64 0,.int .i64 0,.int .i64 0,.int .i64 0],.bool false] from by unfold aut;rw[hrw];rfl]
     have hbel2:=(hb1.trans (hb2.mono hsz1)).alloc (Nat.le_trans hsz1 hb2.size) (.cells #[.int .i64 0,.int .i64 0,.int .i64 0,.int .i64 0,.int .i64 0,.int .i64 0,.int .i64 0,.int .i64 0] 144)
     go_wp2_with fail
     refine bodyPost_ret (ab9 rfl rfl) rfl ?_
     exact⟨by rw[hPR];rfl,hbel2⟩
    | true=>
     rw[hrw] at HKK
     have HK1:Hid ((if an1 es=true then if 0≤aag ab p then false else abg (l.drop (k+1)) p else false)=C):=HKK
     rintro e w2 ⟨rfl,hb2⟩
     obtain⟨a0,a1,a2,a3,a4,a5,a6,a7,hpad⟩:=aq7 (aeg (abf hrw).2)
     rw[show aut p=.tuple #[.agg #[.int .i64 a0,.int .i64 a1,.int .i64 a2,.int .i64 a3,.int .i64 a4,.int .i64 a5,.int .i64 a6,.int .i64 a7],.bool true] from by unfold aut;rw[hrw,hpad];rfl]
     have hbel2:=(hb1.trans (hb2.mono hsz1)).alloc (Nat.le_trans hsz1 hb2.size) (.cells #[.int .i64 a0,.int .i64 a1,.int .i64 a2,.int .i64 a3,.int .i64 a4,.int .i64 a5,.int .i64 a6,.int .i64 a7] 144)
     have hbn2:=afa (hbn.below hb2 hbn.lt) (.cells #[.int .i64 a0,.int .i64 a1,.int .i64 a2,.int .i64 a3,.int .i64 a4,.int .i64 a5,.int .i64 a6,.int .i64 a7] 144)
     have hsz2:w.heap.size≤(w2.alloc (.cells #[.int .i64 a0,.int .i64 a1,.int .i64 a2,.int .i64 a3,.int .i64 a4,.int .i64 a5,.int .i64 a6,.int .i64 a7] 144)).heap.size:=by have:=hb2.size;simp;omega
     clear HKK
     go_upto_region 8 with fail
     generalize w2.alloc (.cells #[.int .i64 a0,.int .i64 a1,.int .i64 a2,.int .i64 a3,.int .i64 a4,.int .i64 a5,.int .i64 a6,.int .i64 a7] 144)=W3 at hbel2 hbn2 hsz2⊢
     have f0:=hbn2.cell 0
     have f1:=hbn2.cell 1
     go_wp2_with fail
     refine(aj6 n₀ _ es W3 (by omega) (hei0.below hbel2 hn₀) hml.2).mono ?_
     rintro e w4 ⟨rfl,hb4⟩
     have hbel4:=hbel2.trans (hb4.mono hsz2)
     have hbn4:=hbn2.below hb4 hbn2.lt
     have hsz4:=Nat.le_trans hsz2 hb4.size
     have h0:=hbn4.cell 0
     cases har:an1 es with
     | false=>
      rw[har] at HK1
      have hCf:C=false:=by rw[←HK1.out];rfl
      have hPR:PR=.error 1:=by rw[HR.out,hCf];rfl
      go_wp2_with fail
      refine bodyPost_ret (ab9 rfl rfl) rfl ?_
      exact⟨by rw[hPR];rfl,hbel4⟩
     | true=>
      rw[har] at HK1
      have HK2:Hid ((if 0≤aag ab p then false else abg (l.drop (k+1)) p)=C):=HK1
      go_wp2_with fail
      refine(aj5 n₀ n₀ _ _ ab p w4 (Ints.below hbel4 hn₀ hab) (Ints.below hbel4 hn₀ hpi0) habl hml.1).mono ?_
      rintro e w5 ⟨rfl,rfl⟩
      generalize aag ab p=z at HK2
      by_cases hz:0≤z
      ·have hCf:C=false:=by rw[←HK2.out,if_pos hz]
       have hPR:PR=.error 1:=by rw[HR.out,hCf];rfl
       go_wp2_with fail
       refine bodyPost_ret (ab9 rfl rfl) rfl ?_
       exact⟨by rw[hPR];rfl,hbel4⟩
      ·have HK3:Hid (abg (l.drop (k+1)) p=C):=by
        have h:=HK2.out
        rw[if_neg hz] at h
        exact h
       go_wp2_with fail
       go_roundw
       case rel=>exact⟨k+1,p,by omega,by simp,hpi0,hml.1,HK3,hbel4,hsz4⟩
       case measure=>simp only[intOf];omega
   ·have hCt:C=true:=by rw[←HK.out,List.drop_of_length_le (by omega)];rfl
    have hmay:=al4 l [] (by rw[HC.out];exact hCt)
    have HPR:Hid (PR=match ade l true [] with
     | none=>.error 2
     | some t=>.ok t):=by show _=_;rw[HR.out,hCt];rfl
    clear HK HC HR
    go_wp2_with fail
    refine(akp l hl hmay _ n₀ wr (Nat.le_trans hn₀ hsz) (hin.below hbel hn₀) (by omega) ((hbel.cell (p:=⟨8,15,none⟩) h6).trans ht)).mono ?_
    cases hw:ade l true [] with
    | none=>
     rintro e w2 ⟨rfl,hb2⟩
     have hPR:PR=.error 2:=by rw[HPR.out,hw]
     simp only[amt]
     go_wp2_with fail
     refine bodyPost_ret (ab9 rfl rfl) rfl ?_
     exact⟨by rw[hPR];rfl,hbel.trans (hb2.mono hsz)⟩
    | some t=>
     rintro e w2 ⟨rfl,hb2⟩
     have hPR:PR=.ok t:=by rw[HPR.out,hw]
     simp only[amt]
     go_wp2_with fail
     refine bodyPost_ret (ab9 rfl rfl) rfl ?_
     exact⟨by rw[hPR];rfl,hbel.trans (hb2.mono hsz)⟩
theorem arz: ∀(r:List Ent) (acc:List UInt8),acc.length≤65536→ade r false acc=if 65536<(acc++r.flatMap fun y=>10::agu y).length then none else some (acc++r.flatMap fun y=>10::agu y):=by
 intro r
 induction r with
 | nil=>intro acc h;simp[ade];omega
 | cons a t ih=>
  intro acc h
  rw[ahz]
  simp only[Bool.false_eq_true,if_false]
  have e:(acc++[10])++agu a++t.flatMap (fun y=>10::agu y)=acc++(a::t).flatMap fun y=>10::agu y:=by simp
  by_cases hl:65536<((acc++[10])++agu a).length
  ·rw[if_pos hl,if_pos]
   rw[←e,List.length_append]
   omega
  ·rw[if_neg hl,ih _ (by omega),e]
theorem ako (l:List Ent):ade l true []=if 65536<(acx l).length then none else some (acx l):=by
 cases l with
 | nil=>simp[ade,acx]
 | cons a t=>
  rw[ahz]
  simp only[if_true,List.nil_append,acx]
  by_cases hl:65536<(agu a).length
  ·rw[if_pos hl]
   symm
   apply if_pos
   rw[List.length_append]
   omega
  ·rw[if_neg hl,arz _ _ (by omega)]
   rfl
theorem aw7: ∀(l:List Ent) (ab:List Int),abg l ab=true↔(∀x∈l,EntOk x)∧ajw l∧ ∀x,l.head? =some x→aag ab x.1<0:=by
 intro l
 induction l with
 | nil=>intro ab;simp[abg,ajw]
 | cons a r ih=>
  intro ab
  constructor
  ·intro h
   have hok:=al4 _ _ h
   unfold abg at h
   split at h
   ·split at h
    ·split at h
     ·cases h
     ·rename_i hz
      obtain⟨_,h2,h3⟩:=(ih a.1).1 h
      refine⟨hok,List.Pairwise.cons (fun b hb=> ?_) h2,fun x hx=> ?_⟩
      ·cases r with
       | nil=>cases hb
       | cons c t=>
        have hc:=h3 c rfl
        rcases List.mem_cons.1 hb with rfl | hb
        ·exact hc
        ·exact aec _ _ _ hc ((List.pairwise_cons.1 h2).1 b hb)
      ·simp at hx
       subst hx
       omega
    ·cases h
   ·cases h
  ·rintro⟨h1,h2,h3⟩
   have ha:=h1 a (by simp)
   have hall:an1 a.2=true:=by
    unfold an1
    simp only[Bool.and_eq_true,decide_eq_true_eq]
    exact⟨⟨ha.n0,ha.n1⟩,ha.ok⟩
   have h4:=h3 a rfl
   unfold abg
   rw[if_pos ha.row,if_pos hall,if_neg (by omega)]
   refine(ih a.1).2 ⟨fun x hx=>h1 x (by simp[hx]),(List.pairwise_cons.1 h2).2,fun x hx=> ?_⟩
   exact(List.pairwise_cons.1 h2).1 x (List.mem_of_mem_head? hx)
theorem arn {p:List Int}(h:ac9 p=true):aag [] p<0:=by
 have:=(abf h).1
 cases p with
 | nil=>simp at this
 | cons x r=>simp[aag]
theorem ayd {l:List Ent}(h1: ∀x∈l,EntOk x)(h2:ajw l)(h3:l.length≤4096)(h4:(acx l).length≤65536):aez l=.ok (acx l):=by
 unfold aez
 rw[if_neg (by omega),if_pos ((aw7 l []).2 ⟨h1,h2,fun x hx=>arn (h1 x (List.mem_of_mem_head? hx)).row⟩),ako,if_neg (by omega)]
theorem aqa (n:Int)(w:World):Calls Tryz.prog 106 #[.int .i64 n] w fun e w'=>e=.returned (.bool (abm n))∧w=w':=by
 by_cases h1:0≤n
 ·by_cases h2:n≤1114111
  ·by_cases h3:n<55296
   ·go_enter Tryz.func106,Tryz.ntmps106
    go_wp2
    go_ret
    exact⟨by simp[abm,h1,h2,h3],rfl⟩
   ·by_cases h4:57343<n
    ·go_enter Tryz.func106,Tryz.ntmps106
     go_wp2
     go_ret
     exact⟨by simp[abm,h1,h2,h4],rfl⟩
    ·go_enter Tryz.func106,Tryz.ntmps106
     go_wp2
     go_ret
     exact⟨by simp[abm];omega,rfl⟩
  ·go_enter Tryz.func106,Tryz.ntmps106
   go_wp2
   go_ret
   exact⟨by simp[abm];omega,rfl⟩
 ·go_enter Tryz.func106,Tryz.ntmps106
  go_wp2
  go_ret
  exact⟨by simp[abm];omega,rfl⟩
set_option maxHeartbeats 4000000 in
theorem ajz (e:El)(w:World):Calls Tryz.prog 54 #[elA e] w fun r w'=>r=.returned (.bool (aaf e))∧Below w.heap.size w w':=by
 obtain⟨va,pr,se,te⟩:=e
 have hb0:=(Below.refl w.heap.size w).alloc (Nat.le_refl _) (.cells #[.bool va,.int .i64 pr,.int .i64 se,.int .i64 te] 133)
 by_cases h1:pr<0
 ·have d1:decide (pr<0)=true:=by simp;omega
  have hR:aaf ⟨va,pr,se,te⟩=false:=by unfold aaf wtB;simp;omega
  rw[hR]
  clear hR h1
  go_enter Tryz.func54,Tryz.ntmps54
  go_wp2
  go_ret
  exact⟨rfl,hb0⟩
 have d1:decide (pr<0)=false:=by simp;omega
 by_cases h2:64319<pr
 ·have d2:decide ((64319:Int)<pr)=true:=by simp;omega
  have hR:aaf ⟨va,pr,se,te⟩=false:=by unfold aaf wtB;simp;omega
  rw[hR]
  clear hR h1 h2
  go_enter Tryz.func54,Tryz.ntmps54
  go_wp2
  go_ret
  exact⟨rfl,hb0⟩
 have d2:decide ((64319:Int)<pr)=false:=by simp;omega
 by_cases h3:se<0
 ·have d3:decide (se<0)=true:=by simp;omega
  have hR:aaf ⟨va,pr,se,te⟩=false:=by unfold aaf wtB;simp;omega
  rw[hR]
  clear hR h1 h2 h3
  go_enter Tryz.func54,Tryz.ntmps54
  go_wp2
  go_ret
  exact⟨rfl,hb0⟩
 have d3:decide (se<0)=false:=by simp;omega
 by_cases h4:65535<se
 ·have d4:decide ((65535:Int)<se)=true:=by simp;omega
  have hR:aaf ⟨va,pr,se,te⟩=false:=by unfold aaf wtB;simp;omega
  rw[hR]
  clear hR h1 h2 h3 h4
  go_enter Tryz.func54,Tryz.ntmps54
  go_wp2
  go_ret
  exact⟨rfl,hb0⟩
 have d4:decide ((65535:Int)<se)=false:=by simp;omega
 by_cases h5:te<0
 ·have d5:decide (te<0)=true:=by simp;omega
  have hR:aaf ⟨va,pr,se,te⟩=false:=by unfold aaf wtB;simp;omega
  rw[hR]
  clear hR h1 h2 h3 h4 h5
  go_enter Tryz.func54,Tryz.ntmps54
  go_wp2
  go_ret
  exact⟨rfl,hb0⟩
 have d5:decide (te<0)=false:=by simp;omega
 by_cases h6:65535<te
 ·have d6:decide ((65535:Int)<te)=true:=by simp;omega
  have hR:aaf ⟨va,pr,se,te⟩=false:=by unfold aaf wtB;simp;omega
  rw[hR]
  clear hR h1 h2 h3 h4 h5 h6
  go_enter Tryz.func54,Tryz.ntmps54
  go_wp2
  go_ret
  exact⟨rfl,hb0⟩
 have d6:decide ((65535:Int)<te)=false:=by simp;omega
 by_cases p0:pr=0
 ·have q0:(pr !=0)=false:=by simp;omega
  by_cases s0:se=0
  ·have q1:(se !=0)=false:=by simp;omega
   have q2:(se==0)=true:=by simp;omega
   by_cases t0:te=0
   ·have q3:(te==0)=true:=by simp;omega
    cases va with
    | true=>
     have hR:aaf ⟨true,pr,se,te⟩=false:=by unfold aaf wtB;simp;omega
     rw[hR]
     clear hR h1 h2 h3 h4 h5 h6 p0 s0 t0
     go_enter Tryz.func54,Tryz.ntmps54
     go_wp2
     go_ret
     exact⟨rfl,hb0⟩
    | false=>
     have hR:aaf ⟨false,pr,se,te⟩=true:=by unfold aaf wtB;simp;omega
     rw[hR]
     clear hR h1 h2 h3 h4 h5 h6 p0 s0 t0
     go_enter Tryz.func54,Tryz.ntmps54
     go_wp2
     go_ret
     exact⟨rfl,hb0⟩
   ·have q3:(te==0)=false:=by simp;omega
    cases va with
    | true=>
     have hR:aaf ⟨true,pr,se,te⟩=false:=by unfold aaf wtB;simp;omega
     rw[hR]
     clear hR h1 h2 h3 h4 h5 h6 p0 s0 t0
     go_enter Tryz.func54,Tryz.ntmps54
     go_wp2
     go_ret
     exact⟨rfl,hb0⟩
    | false=>
     have hR:aaf ⟨false,pr,se,te⟩=true:=by unfold aaf wtB;simp;omega
     rw[hR]
     clear hR h1 h2 h3 h4 h5 h6 p0 s0 t0
     go_enter Tryz.func54,Tryz.ntmps54
     go_wp2
     go_ret
     exact⟨rfl,hb0⟩
  ·have q1:(se !=0)=true:=by simp;omega
   have q2:(se==0)=false:=by simp;omega
   by_cases t0:te=0
   ·have q3:(te==0)=true:=by simp;omega
    cases va with
    | true=>
     have hR:aaf ⟨true,pr,se,te⟩=false:=by unfold aaf wtB;simp;omega
     rw[hR]
     clear hR h1 h2 h3 h4 h5 h6 p0 s0 t0
     go_enter Tryz.func54,Tryz.ntmps54
     go_wp2
     go_ret
     exact⟨rfl,hb0⟩
    | false=>
     have hR:aaf ⟨false,pr,se,te⟩=false:=by unfold aaf wtB;simp;omega
     rw[hR]
     clear hR h1 h2 h3 h4 h5 h6 p0 s0 t0
     go_enter Tryz.func54,Tryz.ntmps54
     go_wp2
     go_ret
     exact⟨rfl,hb0⟩
   ·have q3:(te==0)=false:=by simp;omega
    cases va with
    | true=>
     have hR:aaf ⟨true,pr,se,te⟩=false:=by unfold aaf wtB;simp;omega
     rw[hR]
     clear hR h1 h2 h3 h4 h5 h6 p0 s0 t0
     go_enter Tryz.func54,Tryz.ntmps54
     go_wp2
     go_ret
     exact⟨rfl,hb0⟩
    | false=>
     have hR:aaf ⟨false,pr,se,te⟩=true:=by unfold aaf wtB;simp;omega
     rw[hR]
     clear hR h1 h2 h3 h4 h5 h6 p0 s0 t0
     go_enter Tryz.func54,Tryz.ntmps54
     go_wp2
     go_ret
     exact⟨rfl,hb0⟩
 ·have q0:(pr !=0)=true:=by simp;omega
  by_cases s0:se=0
  ·have q1:(se !=0)=false:=by simp;omega
   have q2:(se==0)=true:=by simp;omega
   by_cases t0:te=0
   ·have q3:(te==0)=true:=by simp;omega
    cases va with
    | true=>
     have hR:aaf ⟨true,pr,se,te⟩=false:=by unfold aaf wtB;simp;omega
     rw[hR]
     clear hR h1 h2 h3 h4 h5 h6 p0 s0 t0
     go_enter Tryz.func54,Tryz.ntmps54
     go_wp2
     go_ret
     exact⟨rfl,hb0⟩
    | false=>
     have hR:aaf ⟨false,pr,se,te⟩=false:=by unfold aaf wtB;simp;omega
     rw[hR]
     clear hR h1 h2 h3 h4 h5 h6 p0 s0 t0
     go_enter Tryz.func54,Tryz.ntmps54
     go_wp2
     go_ret
     exact⟨rfl,hb0⟩
   ·have q3:(te==0)=false:=by simp;omega
    cases va with
    | true=>
     have hR:aaf ⟨true,pr,se,te⟩=false:=by unfold aaf wtB;simp;omega
     rw[hR]
     clear hR h1 h2 h3 h4 h5 h6 p0 s0 t0
     go_enter Tryz.func54,Tryz.ntmps54
     go_wp2
     go_ret
     exact⟨rfl,hb0⟩
    | false=>
     have hR:aaf ⟨false,pr,se,te⟩=false:=by unfold aaf wtB;simp;omega
     rw[hR]
     clear hR h1 h2 h3 h4 h5 h6 p0 s0 t0
     go_enter Tryz.func54,Tryz.ntmps54
     go_wp2
     go_ret
     exact⟨rfl,hb0⟩
  ·have q1:(se !=0)=true:=by simp;omega
   have q2:(se==0)=false:=by simp;omega
   by_cases t0:te=0
   ·have q3:(te==0)=true:=by simp;omega
    cases va with
    | true=>
     have hR:aaf ⟨true,pr,se,te⟩=false:=by unfold aaf wtB;simp;omega
     rw[hR]
     clear hR h1 h2 h3 h4 h5 h6 p0 s0 t0
     go_enter Tryz.func54,Tryz.ntmps54
     go_wp2
     go_ret
     exact⟨rfl,hb0⟩
    | false=>
     have hR:aaf ⟨false,pr,se,te⟩=false:=by unfold aaf wtB;simp;omega
     rw[hR]
     clear hR h1 h2 h3 h4 h5 h6 p0 s0 t0
     go_enter Tryz.func54,Tryz.ntmps54
     go_wp2
     go_ret
     exact⟨rfl,hb0⟩
   ·have q3:(te==0)=false:=by simp;omega
    cases va with
    | true=>
     have hR:aaf ⟨true,pr,se,te⟩=true:=by unfold aaf wtB;simp;omega
     rw[hR]
     clear hR h1 h2 h3 h4 h5 h6 p0 s0 t0
     go_enter Tryz.func54,Tryz.ntmps54
     go_wp2
     go_ret
     exact⟨rfl,hb0⟩
    | false=>
     have hR:aaf ⟨false,pr,se,te⟩=true:=by unfold aaf wtB;simp;omega
     rw[hR]
     clear hR h1 h2 h3 h4 h5 h6 p0 s0 t0
     go_enter Tryz.func54,Tryz.ntmps54
     go_wp2
     go_ret
     exact⟨rfl,hb0⟩
theorem aoq (b:UInt8):(⟨#[b]⟩:ByteArray).size=1:=rfl
theorem ahd (u:Nat)(hu:u<16^6):(aad u).length≤6:=by
 have h:=aco u 6 hu (by omega)
 rw[aaw,aca]
 omega
set_option maxHeartbeats 4000000 in
set_option maxRecDepth 20000 in
theorem ahv (va:Bool)(pr se te:Nat)(hpr:pr≤65535)(hse:se≤65535)(hte:te≤65535)(w:World):
  Calls Tryz.prog 123 #[.agg #[.bool va,.int .i64 (pr:Int),.int .i64 (se:Int),.int .i64 (te:Int)]] w fun e w'=>e=.returned (.string (bsz (elP ⟨va,pr,se,te⟩)))∧Below w.heap.size w w':=by
 have hb0:=(Below.refl w.heap.size w).alloc (Nat.le_refl _) (.cells #[.bool va,.int .i64 (pr:Int),.int .i64 (se:Int),.int .i64 (te:Int)] 133)
 have hB:=Blk.new w 133 #[.bool va,.int .i64 (pr:Int),.int .i64 (se:Int),.int .i64 (te:Int)]
 have q0:=hB.cell 0
 have q1:=hB.cell 1
 have q2:=hB.cell 2
 have q3:=hB.cell 3
 have s1:(bsz (aad pr)).size≤6:=by rw[aa8];exact ahd pr (by omega)
 have s2:(bsz (aad se)).size≤6:=by rw[aa8];exact ahd se (by omega)
 have s3:(bsz (aad te)).size≤6:=by rw[aa8];exact ahd te (by omega)
 obtain⟨F,hF⟩: ∃F:Nat→ByteArray,F=fun u=>bsz (aad u):=⟨_,rfl⟩
 have hD: ∀(u:Nat) (W:World),u≤65535→Calls Tryz.prog 121 #[.int .i64 (u:Int)] W fun e w'=>e=.returned (.string (F u))∧w'=W:=fun u W hu=>by
  rw[hF]
  exact(aeq u (by omega) W).mono fun e w' h=>⟨h.1,h.2.symm⟩
 have t1:(F pr).size≤6:=by rw[hF];exact s1
 have t2:(F se).size≤6:=by rw[hF];exact s2
 have t3:(F te).size≤6:=by rw[hF];exact s3
 have HF:Hid (F=fun u=>bsz (aad u)):=hF
 clear hF s1 s2 s3 hB
 cases va with
 | false=>
  have HE:Hid ((⟨#[91]⟩:ByteArray)++⟨#[46]⟩++F pr++⟨#[46]⟩++F se++⟨#[46]⟩++F te++⟨#[93]⟩=bsz (elP ⟨false,pr,se,te⟩)):=by
   show _=_
   rw[HF.out]
   apply ByteArray.ext
   simp[elP]
  go_enter Tryz.func123,Tryz.ntmps123
  go_upto_region 4 with fail
  generalize w.alloc (.cells #[.bool false,.int .i64 (pr:Int),.int .i64 (se:Int),.int .i64 (te:Int)] 133)=W at hb0 q0 q1 q2 q3⊢
  go_quiet (first | (go_at_call 121;refine Calls.quiet_of_same (hD _ _ (by omega))))
  go_wp2
  go_ret
  refine⟨?_,hb0.trans ((afq W nq).mono hb0.size)⟩
  rw[←HE.out]
  rfl
 | true=>
  have HE:Hid ((⟨#[91]⟩:ByteArray)++⟨#[42]⟩++F pr++⟨#[46]⟩++F se++⟨#[46]⟩++F te++⟨#[93]⟩=bsz (elP ⟨true,pr,se,te⟩)):=by
   show _=_
   rw[HF.out]
   apply ByteArray.ext
   simp[elP]
  go_enter Tryz.func123,Tryz.ntmps123
  go_upto_region 4 with fail
  generalize w.alloc (.cells #[.bool true,.int .i64 (pr:Int),.int .i64 (se:Int),.int .i64 (te:Int)] 133)=W at hb0 q0 q1 q2 q3⊢
  go_quiet (first | (go_at_call 121;refine Calls.quiet_of_same (hD _ _ (by omega))))
  go_wp2
  go_ret
  refine⟨?_,hb0.trans ((afq W nq).mono hb0.size)⟩
  rw[←HE.out]
  rfl
set_option maxHeartbeats 4000000 in
set_option maxRecDepth 20000 in
theorem ap3 (p:List Int)(l:List El)(hok:EntOk (p,l))(n₀:Nat)(pa:Option Addr)(pc:Nat)(ea:Option Addr)(ec:Nat)(w:World)(hn₀:n₀≤w.heap.size)(hp:Ints n₀ w (.slice pa p.length pc) p)(hl:Els n₀ w (.slice ea l.length ec) l):
  Calls Tryz.prog 73 #[.agg #[.slice pa p.length pc,.slice ea l.length ec]] w fun e w'=>e=.returned (.string (bsz (agu (p,l))))∧Below w.heap.size w w':=by
 obtain⟨us,hus,hne,hu8,hum⟩:=akg hok.row
 replace hus:p=us.map (fun q:Nat=>(q:Int)):=hus
 have hpu:p.length=us.length:=by rw[hus];simp
 have hrowP:ax8 p=aav us:=by
  unfold ax8
  rw[hus,List.map_map]
  congr 1
  rw[show (Int.toNat ∘ fun q:Nat=>(q:Int))=id from by funext q;simp]
  simp
 have hl16:l.length≤16:=hok.n1
 have hall:l.all aaf=true:=hok.ok
 have HE:Hid (agu (p,l)=aav us++[59]++afd l):=by
  show _=_
  simp[agu,hrowP]
 rcases hp with ⟨a',cap',e,rfl⟩ | ⟨bp,op,cap',e,hlp,hcp⟩
 ·exfalso
  rw[List.length_nil] at hpu
  exact hne (List.eq_nil_of_length_eq_zero hpu.symm)
 cases e
 rcases hl with ⟨a',cap',e,rfl⟩ | ⟨be,oe,cap',e,hle,hce⟩
 ·exfalso
  have:=hok.n0
  simp at this
 cases e
 rw[hpu]
 have hcp': ∀j (hj:j<us.length),w.cell? ⟨bp,op+j,none⟩=some (.int .i64 (us[j]:Int)):=fun j hj=>by
  rw[hcp j (by omega),hus]
  simp[hj]
 have hB0:=Blk.new w 128 #[.slice (some ⟨bp,op,none⟩) us.length pc,.slice (some ⟨be,oe,none⟩) l.length ec]
 have hb0:=(Below.refl w.heap.size w).alloc (Nat.le_refl _) (.cells #[.slice (some ⟨bp,op,none⟩) us.length pc,.slice (some ⟨be,oe,none⟩) l.length ec] 128)
 have q0:=hB0.cell 0
 have q1:=hB0.cell 1
 have HU:Hid (p.length=us.length):=hpu
 clear hpu hus hrowP hok hcp
 go_enter Tryz.func73,Tryz.ntmps73
 go_wp2_with fail
 generalize w.alloc (.cells #[.slice (some ⟨bp,op,none⟩) us.length pc,.slice (some ⟨be,oe,none⟩) l.length ec] 128)=W at hB0 hb0 q0 q1⊢
 generalize hBe:w.heap.size=B at hB0 q0 q1⊢
 rw[hBe] at hb0 hn₀
 have HBE:Hid (w.heap.size=B):=hBe
 clear hBe
 have HCE:Hid (∀j (hj:j<l.length),w.cell? ⟨be,oe+j*4,none⟩=some (.bool l[j].va)∧w.cell? ⟨be,oe+j*4+1,none⟩=some (.int .i64 l[j].pr)∧w.cell? ⟨be,oe+j*4+2,none⟩=some (.int .i64 l[j].se)∧w.cell? ⟨be,oe+j*4+3,none⟩=some (.int .i64 l[j].te)):=hce
 have hcw:Hid (∀j (hj:j<us.length),W.cell? ⟨bp,op+j,none⟩=some (.int .i64 (us[j]:Int))):=fun j hj=>(hb0.cell (p:=⟨bp,op+j,none⟩) (show bp<B by omega)).trans (hcp' j hj)
 clear hce hcp'
 go_loopw [3,4] (fun t i wr=> ∃(k:Nat) (tb:ByteArray),k≤us.length∧i=.int .i64 k∧t=.string tb∧tb.size≤1000*k∧Hid (tb=bsz (aav (us.take k)))∧wr=W) (fun _ i _=>us.length-(intOf i).toNat)
 case atStart=>exact⟨0,⟨#[]⟩,by omega,rfl,rfl,by simp[ByteArray.size],by show _=_;simp[aav],rfl⟩
 case round=>
  obtain⟨k,tb,hk,rfl,rfl,htb,HT,rfl⟩:=hrel
  by_cases hlt:k<us.length
  ·have hc:=hcw.out k hlt
   have hst:=ahf us k hlt
   have hum':=hum _ (List.getElem_mem hlt)
   generalize us[k]=x at hc hst hum'
   have hdg:=aeq x (by omega) wr
   have hsx:(bsz (aad x)).size≤6:=by rw[aa8];exact ahd x (by omega)
   generalize hX:bsz (aad x)=X at hdg hsx
   have HX:Hid (bsz (aad x)=X):=hX
   clear hX
   by_cases hk0:0<k
   ·rw[if_pos hk0] at hst
    have HS:Hid (tb++⟨#[32]⟩++X=bsz (aav (us.take (k+1)))):=by
     show _=_
     rw[hst,←HX.out,HT.out]
     apply ByteArray.ext
     simp
    have hs1:(tb++⟨#[32]⟩).size≤1000*k+1:=by rw[ByteArray.size_append,aoq];omega
    have hs2:(tb++⟨#[32]⟩++X).size≤1000*(k+1):=by rw[ByteArray.size_append,ByteArray.size_append,aoq];omega
    have g0:decide ((0:Int)<(k:Int))=true:=by simp;omega
    clear hst HX HT
    go_wp2_with fail
    refine hdg.mono ?_
    rintro e w1 ⟨rfl,rfl⟩
    go_wp2_with fail
    go_roundw
    case rel=>exact⟨k+1,_,by omega,by simp,rfl,hs2,HS,trivial⟩
    case measure=>simp only[intOf];omega
   ·rw[if_neg hk0] at hst
    have HS:Hid (tb++X=bsz (aav (us.take (k+1)))):=by
     show _=_
     rw[hst,←HX.out,HT.out]
     apply ByteArray.ext
     simp
    have hs2:(tb++X).size≤1000*(k+1):=by rw[ByteArray.size_append];omega
    have g0:decide ((0:Int)<(k:Int))=false:=by simp;omega
    clear hst HX HT
    go_wp2_with fail
    refine hdg.mono ?_
    rintro e w1 ⟨rfl,rfl⟩
    go_wp2_with fail
    go_roundw
    case rel=>exact⟨k+1,_,by omega,by simp,rfl,hs2,HS,trivial⟩
    case measure=>simp only[intOf];omega
  ·have HA:Hid (tb++⟨#[59]⟩=bsz (aav us++[59])):=by
    show _=_
    rw[HT.out,List.take_of_length_le (by omega)]
    apply ByteArray.ext
    simp
   have hs1:(tb++⟨#[59]⟩).size≤10000:=by rw[ByteArray.size_append,aoq];omega
   clear HT hcw
   go_wp2_with fail
   generalize tb++⟨#[59]⟩=A at HA hs1⊢
   obtain⟨wo,hwo⟩: ∃wo,wo=wr:=⟨_,rfl⟩
   subst hwo
   go_loopw [3,5] (fun t i wx=> ∃(k2:Nat) (tb2:ByteArray),k2≤l.length∧i=.int .i64 k2∧t=.string tb2∧tb2.size≤10000+100*k2∧Hid (tb2=bsz (aav us++[59]++afd (l.take k2)))∧Below wo.heap.size wo wx) (fun _ i _=>l.length-(intOf i).toNat)
   case atStart=>exact⟨0,A,by omega,rfl,rfl,by omega,by show _=_;rw[HA.out];simp[afd],Below.refl _ _⟩
   case round=>
    obtain⟨k2,tb2,hk2,rfl,rfl,htb2,HT2,hbk⟩:=hrel
    have q1b:wr.cell? ⟨B,1,none⟩=some (.slice (some ⟨be,oe,none⟩) l.length ec):=(hbk.cell (p:=⟨B,1,none⟩) hB0.lt).trans q1
    by_cases hlt2:k2<l.length
    ·have hbw:be<wo.heap.size:=by have:=hB0.lt;omega
     obtain⟨e0,e1,e2,e3⟩:=HCE.out k2 hlt2
     have up: ∀j,wr.cell? ⟨be,j,none⟩=w.cell? ⟨be,j,none⟩:=fun j=>(hbk.cell (p:=⟨be,j,none⟩) hbw).trans (hb0.cell (p:=⟨be,j,none⟩) (show be<B by omega))
     have f0:=(up _).trans e0
     have f1:=(up _).trans e1
     have f2:=(up _).trans e2
     have f3:=(up _).trans e3
     have hrt:aaf l[k2]=true:=List.all_eq_true.1 hall _ (List.getElem_mem hlt2)
     have hlen17:(elP l[k2]).length≤100:=by
      have:=adp [l[k2]] (by intro e he;rw[List.mem_singleton.1 he];exact ais hrt)
      simp[afd] at this
      omega
     have htk:=aq5 l k2 hlt2
     obtain⟨h1,h2,h3⟩:=ais hrt
     obtain⟨x,hx⟩: ∃x,x=l[k2]:=⟨_,rfl⟩
     rw[←hx] at f0 f1 f2 f3 hlen17 htk h1 h2 h3
     clear hx hrt e0 e1 e2 e3 up
     obtain⟨va,pr,se,te⟩:=x
     obtain⟨u1,g1,g2⟩:=abw h1
     obtain⟨u2,g3,g4⟩:=abw h2
     obtain⟨u3,g5,g6⟩:=abw h3
     dsimp only at f0 f1 f2 f3 g1 g3 g5
     subst g1 g3 g5
     have hel:=ahv va u1 u2 u3 (by omega) (by omega) (by omega) wr
     obtain⟨X,hX⟩: ∃X,X=bsz (elP ⟨va,(u1:Int),u2,u3⟩):=⟨_,rfl⟩
     have hsx:X.size≤100:=by rw[hX,aa8];exact hlen17
     rw[←hX] at hel
     have HS2:Hid (tb2++X=bsz (aav us++[59]++afd (l.take (k2+1)))):=by
      show _=_
      rw[htk,HT2.out,hX,ack]
      simp[List.append_assoc]
     have hs3:(tb2++X).size≤10000+100*(k2+1):=by rw[ByteArray.size_append];omega
     clear hX htk hlen17 h1 h2 h3 HT2 g2 g4 g6
     go_wp2_with fail
     refine hel.mono ?_
     rintro e w2 ⟨rfl,hb2⟩
     have hbn:Below wo.heap.size wo w2:=hbk.trans (hb2.mono hbk.size)
     clear hel f0 f1 f2 f3 hb2
     go_wp2_with fail
     go_roundw
     case rel=>exact⟨k2+1,_,by omega,by simp,rfl,hs3,HS2,hbn⟩
     case measure=>simp only[intOf];omega
    ·have hR:tb2=bsz (agu (p,l)):=by
      rw[HT2.out,HE.out,List.take_of_length_le (by omega)]
     clear HT2
     go_wp2_with fail
     go_ret
     subst hR
     exact⟨rfl,by rw[HBE.out];exact hb0.trans (hbk.mono (Nat.le_of_lt hB0.lt))⟩
end Go.Proofs.YtpfkoldfbecdlaaGreatDoor
