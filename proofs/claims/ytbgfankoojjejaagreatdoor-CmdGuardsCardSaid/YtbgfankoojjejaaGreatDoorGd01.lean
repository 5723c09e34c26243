/- The proof's texts MaA: what the claim reaches of them. -/
import GoSem.Claim
import Derived.Laws.Bits64b
import Derived.Laws.Bits64
import Derived.Laws.BitsAllLaws
import Derived.Lib.DecodeN
import Derived.Lib.RuneBytes
import Derived.Laws.BytesArg
set_option linter.unusedSimpArgs false
set_option linter.unusedVariables false
set_option maxHeartbeats 8000000
set_option maxRecDepth 1000000
namespace Go.Proofs.YtbgfankoojjejaaGreatDoor
abbrev OSet:=BitVec 256
def owN (s:OSet) (i:Nat):Nat:=s.toNat / 2 ^ (64 * i) % 18446744073709551616
def ow (s:OSet) (i:Nat):Int:=(owN s i:Int)
theorem owN_lt (s:OSet) (i:Nat):owN s i < 18446744073709551616:=Nat.mod_lt _ (by decide)
theorem ow_nonneg (s:OSet) (i:Nat):0≤ow s i:=Int.natCast_nonneg _
theorem ow_lt (s:OSet) (i:Nat):ow s i < 18446744073709551616:=by have:=owN_lt s i;unfold ow;omega
theorem owN_testBit (s:OSet) (i j:Nat):(owN s i).testBit j=(decide (j < 64) && s.getLsbD (64 * i+j)):=by
 unfold owN
 rw [show (18446744073709551616:Nat)=2 ^ 64 from rfl,Nat.testBit_mod_two_pow,Nat.testBit_div_two_pow]
 rw [BitVec.getLsbD]
 congr 2
 omega
theorem owN_eq (s:OSet) (i n:Nat) (hn:n < 18446744073709551616) (h:∀ j,j < 64→n.testBit j=s.getLsbD (64 * i+j)):n=owN s i:=by
 refine Nat.eq_of_testBit_eq fun j=>?_
 rw [owN_testBit]
 by_cases hj:j < 64
 ·rw [h j hj];simp [hj]
 ·rw [Nat.testBit_lt_two_pow (Nat.lt_of_lt_of_le hn (by rw [show (18446744073709551616:Nat)=2 ^ 64 from rfl];exact Nat.pow_le_pow_right (by decide) (by omega)))]
  simp [hj]
theorem oset_ext {s t:OSet} (h:∀ i,i < 4→ow s i=ow t i):s=t:=by
 refine BitVec.eq_of_getLsbD_eq fun k hk=>?_
 have h1:owN s (k / 64)=owN t (k / 64):=by
  have:=h (k / 64) (by omega)
  unfold ow at this;omega
 have h2:=owN_testBit s (k / 64) (k % 64)
 have h3:=owN_testBit t (k / 64) (k % 64)
 rw [h1,h3] at h2
 have h4:64 * (k / 64)+k % 64=k:=by omega
 have h5:k % 64 < 64:=by omega
 rw [h4] at h2
 simpa [h5] using h2.symm
theorem oset_ne {s t:OSet} (h:s≠t):¬ (ow s 0=ow t 0∧ow s 1=ow t 1∧ow s 2=ow t 2∧ow s 3=ow t 3):=by
 intro ⟨h0,h1,h2,h3⟩
 refine h (oset_ext fun i hi=>?_)
 match i,hi with
 | 0,_=>exact h0
 | 1,_=>exact h1
 | 2,_=>exact h2
 | 3,_=>exact h3
theorem owN_and (s t:OSet) (i:Nat):owN s i &&& owN t i=owN (s &&& t) i:=by
 refine owN_eq _ _ _ (Nat.lt_of_le_of_lt Nat.and_le_left (owN_lt s i)) fun j hj=>?_
 simp [Nat.testBit_and,owN_testBit,hj]
theorem owN_or (s t:OSet) (i:Nat):owN s i ||| owN t i=owN (s ||| t) i:=by
 refine owN_eq _ _ _ ?_ fun j hj=>?_
 ·rw [show (18446744073709551616:Nat)=2 ^ 64 from rfl]
  exact Nat.or_lt_two_pow (owN_lt s i) (owN_lt t i)
 ·simp [Nat.testBit_or,owN_testBit,hj]
theorem owN_not (s:OSet) (i:Nat) (hi:i < 4):18446744073709551615 - owN s i=owN (~~~s) i:=by
 refine owN_eq _ _ _ (by omega) fun j hj=>?_
 have h:=Nat.testBit_two_pow_sub_succ (n:=64) (owN_lt s i) j
 rw [show (2:Nat) ^ 64 - (owN s i+1)=18446744073709551615 - owN s i by have:=owN_lt s i;omega] at h
 rw [h,owN_testBit]
 have h256:64 * i+j < 256:=by omega
 simp [hj,h256]
theorem bits_and_ow (s t:OSet) (i:Nat):bits .and .u64 (ow s i) (ow t i)=ow (s &&& t) i:=by
 unfold ow
 rw [bits_and_u64_nat _ _ (owN_lt s i) (owN_lt t i),owN_and]
theorem bits_or_ow (s t:OSet) (i:Nat):bits .or .u64 (ow s i) (ow t i)=ow (s ||| t) i:=by
 unfold ow
 rw [bits_or_u64_nat _ _ (owN_lt s i) (owN_lt t i),owN_or]
theorem xor_max (n:Nat) (h:n < 18446744073709551616):18446744073709551615 ^^^ n=18446744073709551615 - n:=by
 refine Nat.eq_of_testBit_eq fun j=>?_
 have h2:=Nat.testBit_two_pow_sub_succ (n:=64) h j
 rw [show (2:Nat) ^ 64 - (n+1)=18446744073709551615 - n by omega] at h2
 rw [h2,Nat.testBit_xor,show (18446744073709551615:Nat)=2 ^ 64 - 1 from rfl,Nat.testBit_two_pow_sub_one]
 by_cases hj:j < 64
 ·simp [hj]
 ·rw [Nat.testBit_lt_two_pow (Nat.lt_of_lt_of_le h (by rw [show (18446744073709551616:Nat)=2 ^ 64 from rfl];exact Nat.pow_le_pow_right (by decide) (by omega)))]
  simp [hj]
theorem bits_not_ow (s:OSet) (i:Nat) (hi:i < 4):bits .xor .u64 18446744073709551615 (ow s i)=ow (~~~s) i:=by
 unfold ow
 have h:=bits_xor_u64_nat 18446744073709551615 (owN s i) (by decide) (owN_lt s i)
 rw [xor_max _ (owN_lt s i),owN_not s i hi] at h
 exact h
def ohas (s:OSet) (x:Nat):Bool:=s.getLsbD x
def obit (x:Nat):OSet:=BitVec.ofNat 256 (2 ^ x)
theorem obit_get (x y:Nat) (hx:x < 256):(obit x).getLsbD y=decide (x=y):=by
 unfold obit
 rw [BitVec.getLsbD_ofNat,Nat.testBit_two_pow]
 by_cases h:x=y
 ·subst h;simp [hx]
 ·simp [h]
theorem ow_div (s:OSet) (i j:Nat) (hj:j < 64):owN s i / 2 ^ j % 2=(s.getLsbD (64 * i+j)).toNat:=by
 have h:=owN_testBit s i j
 rw [Nat.testBit_eq_decide_div_mod_eq] at h
 simp only [hj,decide_true,Bool.true_and] at h
 have h2:owN s i / 2 ^ j % 2=0∨owN s i / 2 ^ j % 2=1:=by omega
 rcases h2 with h2 | h2
 ·rw [h2] at h;rw [h2,←h];simp
 ·rw [h2] at h;rw [h2,←h];simp
theorem has_word (s:OSet) (i:Nat) (x:Int) (h0:0≤x) (h1:x≤255) (hi:x / 64=i):(ow s i / 2 ^ (x % 64).toNat) % 2=if ohas s x.toNat then 1 else 0:=by
 obtain ⟨n,rfl⟩:=Int.eq_ofNat_of_zero_le h0
 have e1:((n:Int) % 64).toNat=n % 64:=by omega
 have e2:64 * i+n % 64=n:=by omega
 have h:=ow_div s i (n % 64) (by omega)
 rw [e2] at h
 rw [e1,Int.toNat_natCast]
 unfold ow ohas
 have e3:((owN s i:Int) / 2 ^ (n % 64) % 2)=((owN s i / 2 ^ (n % 64) % 2:Nat):Int):=by simp
 rw [e3,h]
 cases s.getLsbD n <;> simp
theorem has_div_nonneg (s:OSet) (i k:Nat):0≤ow s i / 2 ^ k:=Int.ediv_nonneg (ow_nonneg s i) (by exact_mod_cast Nat.zero_le _)
theorem has_div_lt (s:OSet) (i k:Nat):ow s i / 2 ^ k < 18446744073709551616:=by
 refine Int.lt_of_le_of_lt ?_ (ow_lt s i)
 exact Int.ediv_le_self _ (ow_nonneg s i)
theorem has_and (s:OSet) (i:Nat) (x:Int) (h0:0≤x) (h1:x≤255) (hi:x / 64=i):(bits .and .u64 (ow s i / 2 ^ (x % 64).toNat) 1 == 1)=ohas s x.toNat:=by
 have h2:=has_div_nonneg s i (x % 64).toNat
 have h3:=has_div_lt s i (x % 64).toNat
 have h:=bits_and_u64_nat (ow s i / 2 ^ (x % 64).toNat).toNat 1 (by omega) (by omega)
 rw [Nat.and_one_is_mod,Int.toNat_of_nonneg h2] at h
 have h4:=has_word s i x h0 h1 hi
 have h5:(((ow s i / 2 ^ (x % 64).toNat).toNat % 2:Nat):Int)=(ow s i / 2 ^ (x % 64).toNat) % 2:=by omega
 rw [show ((1:Nat):Int)=1 from rfl] at h
 rw [h,h5,h4]
 cases ohas s x.toNat <;> rfl
theorem owN_bit (s:OSet) (i x:Nat) (hx:x < 256) (hi:x / 64=i):owN s i ||| 2 ^ (x % 64)=owN (s ||| obit x) i:=by
 have hp:2 ^ (x % 64) < 2 ^ 64:=Nat.pow_lt_pow_right (by decide) (by omega)
 refine owN_eq _ _ _ ?_ fun j hj=>?_
 ·rw [show (18446744073709551616:Nat)=2 ^ 64 from rfl]
  exact Nat.or_lt_two_pow (owN_lt s i) hp
 ·rw [Nat.testBit_or,owN_testBit,BitVec.getLsbD_or,obit_get _ _ hx,Nat.testBit_two_pow]
  simp only [hj,decide_true,Bool.true_and]
  congr 1
  exact decide_eq_decide.2 (by omega)
theorem owN_bit_other (s:OSet) (i x:Nat) (hx:x < 256) (hi:x / 64≠i):owN s i=owN (s ||| obit x) i:=by
 refine owN_eq _ _ _ (owN_lt s i) fun j hj=>?_
 rw [owN_testBit,BitVec.getLsbD_or,obit_get _ _ hx]
 have:x≠64 * i+j:=by omega
 simp [hj,this]
theorem bits_add_ow (s:OSet) (i:Nat) (x:Int) (h0:0≤x) (h1:x≤255) (hi:x / 64=i):bits .or .u64 (ow s i) (2 ^ (x % 64).toNat)=ow (s ||| obit x.toNat) i:=by
 obtain ⟨n,rfl⟩:=Int.eq_ofNat_of_zero_le h0
 have e1:((n:Int) % 64).toNat=n % 64:=by omega
 have hp:2 ^ (n % 64) < 2 ^ 64:=Nat.pow_lt_pow_right (by decide) (by omega)
 have h:=bits_or_u64_nat (owN s i) (2 ^ (n % 64)) (owN_lt s i) hp
 rw [owN_bit s i n (by omega) (by omega)] at h
 rw [e1,Int.toNat_natCast]
 unfold ow
 rw [←h]
 simp
theorem ow_other (s:OSet) (i:Nat) (x:Int) (h0:0≤x) (h1:x≤255) (hi:x / 64≠i):ow (s ||| obit x.toNat) i=ow s i:=by
 unfold ow
 rw [←owN_bit_other s i x.toNat (by omega) (by omega)]
def oz:OSet:=0
theorem ow_zero (i:Nat):ow oz i=0:=by simp [oz,ow,owN]
def ofl (zs:List Int):OSet:=zs.foldl (fun s x=>s ||| obit x.toNat) oz
def ospan (lo:Nat):Nat→OSet
 | 0=>oz
 | n+1=>ospan lo n ||| obit (lo+n)
def oSpan (lo hi:Int):OSet:=ospan lo.toNat (hi - lo+1).toNat
theorem ofl_nil:ofl []=oz:=rfl
theorem ofl_snoc (zs:List Int) (k:Nat) (h:k < zs.length):ofl (zs.take (k+1))=ofl (zs.take k) ||| obit (zs.getD k 0).toNat:=by
 unfold ofl
 rw [List.take_succ_eq_append_getElem h,List.foldl_append]
 simp [List.getD,List.getElem?_eq_getElem h]
end Go.Proofs.YtbgfankoojjejaaGreatDoor
namespace Go.Proofs.YtbgfankoojjejaaGreatDoor
def prv (s:OSet) (k:Nat):Bool:=decide (0 < k) && ohas s (k - 1)
def grow1:List (Nat × Nat)→Nat→List (Nat × Nat)
 | [],_=>[]
 | [p],k=>[(p.1,k)]
 | p :: q :: l,k=>p :: grow1 (q :: l) k
def spTo (s:OSet):Nat→List (Nat × Nat)
 | 0=>[]
 | k+1=>if ohas s k then (if prv s k then grow1 (spTo s k) k else spTo s k++[(k,k)]) else spTo s k
theorem grow1_snoc (p:Nat × Nat) (k:Nat):∀ l:List (Nat × Nat),grow1 (l++[p]) k=l++[(p.1,k)]
 | []=>rfl
 | [a]=>rfl
 | a :: b :: l=>by
  have h:=grow1_snoc p k (b :: l)
  simp only [List.cons_append] at h ⊢
  rw [grow1,h]
theorem prv_succ (s:OSet) (k:Nat):prv s (k+1)=ohas s k:=by simp [prv]
structure SpOk (s:OSet) (k:Nat) (l:List (Nat × Nat)):Prop where
 le:∀ p∈l,p.1≤p.2∧p.2 < k
 apart:∀ i,∀ h:i+1 < l.length,(l[i]'(by omega)).2+1 < (l[i+1]'h).1
 mem:∀ b,b < k→(ohas s b=true ↔ ∃ p∈l,p.1≤b∧b≤p.2)
 last:prv s k=true→∃ a p,l=a++[p]∧p.2+1=k
 gap:prv s k=false→∀ p∈l,p.2+1 < k∨k=0
theorem spOk (s:OSet):∀ k,SpOk s k (spTo s k)
 | 0=>⟨by simp [spTo],by simp [spTo],by simp,by simp [prv],by simp [spTo]⟩
 | k+1=>by
  have ih:=spOk s k
  unfold spTo
  by_cases hk:ohas s k=true
  ·rw [if_pos hk]
   have hp1:prv s (k+1)=true:=by rw [prv_succ,hk]
   by_cases hp:prv s k=true
   ·rw [if_pos hp]
    obtain ⟨a,p,hl,hpk⟩:=ih.last hp
    rw [hl,grow1_snoc]
    rw [hl] at ih
    refine ⟨?_,?_,?_,fun _=>⟨a,_,rfl,rfl⟩,fun h=>by rw [hp1] at h;cases h⟩
    ·intro q hq
     rcases List.mem_append.1 hq with hq | hq
     ·have:=ih.le q (List.mem_append_left _ hq);omega
     ·simp only [List.mem_singleton] at hq
      have:=ih.le p (by simp)
      subst hq
      simp only
      omega
    ·intro i h
     have h1:=ih.apart i (by simpa using h)
     simp only [List.length_append,List.length_cons,List.length_nil] at h
     by_cases hi:i+1 < a.length
     ·rw [List.getElem_append_left (by omega),List.getElem_append_left hi] at h1 ⊢
      exact h1
     ·have e:i+1=a.length:=by omega
      rw [List.getElem_append_left (by omega),List.getElem_append_right (by omega)] at h1 ⊢
      simp only [e,Nat.sub_self,List.getElem_cons_zero] at h1 ⊢
      exact h1
    ·intro b hb
     by_cases hbk:b < k
     ·rw [ih.mem b hbk]
      constructor
      ·rintro ⟨q,hq,h1,h2⟩
       rcases List.mem_append.1 hq with hq | hq
       ·exact ⟨q,List.mem_append_left _ hq,h1,h2⟩
       ·simp only [List.mem_singleton] at hq
        subst hq
        exact ⟨(q.1,k),by simp,h1,by simp only;omega⟩
      ·rintro ⟨q,hq,h1,h2⟩
       rcases List.mem_append.1 hq with hq | hq
       ·exact ⟨q,List.mem_append_left _ hq,h1,h2⟩
       ·simp only [List.mem_singleton] at hq
        subst hq
        simp only at h1 h2
        exact ⟨p,by simp,h1,by omega⟩
     ·have e:b=k:=by omega
      subst e
      refine ⟨fun _=>⟨(p.1,b),by simp,?_,by simp⟩,fun _=>hk⟩
      have:=ih.le p (by simp)
      simp only;omega
   ·have hp':prv s k=false:=by simpa using hp
    rw [if_neg hp]
    refine ⟨?_,?_,?_,fun _=>⟨_,_,rfl,rfl⟩,fun h=>by rw [hp1] at h;cases h⟩
    ·intro q hq
     rcases List.mem_append.1 hq with hq | hq
     ·have:=ih.le q hq;omega
     ·simp only [List.mem_singleton] at hq
      subst hq;simp
    ·intro i h
     simp only [List.length_append,List.length_cons,List.length_nil] at h
     by_cases hi:i+1 < (spTo s k).length
     ·rw [List.getElem_append_left (by omega),List.getElem_append_left hi]
      exact ih.apart i hi
     ·have e:i+1=(spTo s k).length:=by omega
      rw [List.getElem_append_left (by omega),List.getElem_append_right (by omega)]
      simp only [e,Nat.sub_self,List.getElem_cons_zero]
      have hm:=List.getElem_mem (l:=spTo s k) (n:=i) (by omega)
      rcases ih.gap hp' _ hm with h1 | h1
      ·exact h1
      ·have:=ih.le _ hm;omega
    ·intro b hb
     by_cases hbk:b < k
     ·rw [ih.mem b hbk]
      constructor
      ·rintro ⟨q,hq,h1,h2⟩
       exact ⟨q,List.mem_append_left _ hq,h1,h2⟩
      ·rintro ⟨q,hq,h1,h2⟩
       rcases List.mem_append.1 hq with hq | hq
       ·exact ⟨q,hq,h1,h2⟩
       ·simp only [List.mem_singleton] at hq
        subst hq
        simp only at h1 h2
        omega
     ·have e:b=k:=by omega
      subst e
      exact ⟨fun _=>⟨(b,b),by simp,by simp,by simp⟩,fun _=>hk⟩
  ·have hk':ohas s k=false:=by simpa using hk
   rw [if_neg hk]
   have hp1:prv s (k+1)=false:=by rw [prv_succ,hk']
   refine ⟨?_,ih.apart,?_,fun h=>(by rw [hp1] at h;cases h),?_⟩
   ·intro q hq;have:=ih.le q hq;omega
   ·intro b hb
    by_cases hbk:b < k
    ·exact ih.mem b hbk
    ·have e:b=k:=by omega
     subst e
     rw [hk']
     refine ⟨fun h=>(by cases h),?_⟩
     rintro ⟨q,hq,h1,h2⟩
     have:=ih.le q hq
     omega
   ·intro _ q hq
    have:=ih.le q hq
    omega
def sps (s:OSet):List (Nat × Nat):=spTo s 256
theorem ospan_get (lo:Nat) (k:Nat):∀ n,lo+n≤256→(ospan lo n).getLsbD k=(decide (lo≤k) && decide (k < lo+n))
 | 0,_=>by
  simp only [ospan,oz]
  by_cases h:lo≤k
  ·simp [h]
  ·simp [h]
 | n+1,hn=>by
  rw [ospan,BitVec.getLsbD_or,ospan_get lo k n (by omega),obit_get _ _ (by omega)]
  by_cases h:lo≤k <;> by_cases h2:k < lo+n <;> by_cases h3:lo+n=k <;> simp [h,h2,h3] <;> omega
def unn (l:List (Nat × Nat)):OSet:=l.foldl (fun s p=>s ||| oSpan p.1 p.2) oz
theorem unn_fold (k:Nat):∀ (l:List (Nat × Nat)) (s:OSet),(∀ p∈l,p.1≤p.2∧p.2 < 256)→
  ((l.foldl (fun s p=>s ||| oSpan p.1 p.2) s).getLsbD k=true ↔ s.getLsbD k=true∨∃ p∈l,p.1≤k∧k≤p.2)
 | [],s,_=>by simp
 | p :: l,s,h=>by
  have hp:=h p (by simp)
  rw [List.foldl_cons,unn_fold k l _ (fun q hq=>h q (by simp [hq])),BitVec.getLsbD_or]
  unfold oSpan
  rw [Int.toNat_natCast,show ((p.2:Int) - (p.1:Int)+1).toNat=p.2+1 - p.1 by omega,ospan_get _ _ _ (by omega)]
  simp only [Bool.or_eq_true,Bool.and_eq_true,decide_eq_true_eq,List.mem_cons]
  constructor
  ·rintro ((h1 | h1) | ⟨q,hq,h1⟩)
   ·exact Or.inl h1
   ·exact Or.inr ⟨p,Or.inl rfl,by omega,by omega⟩
   ·exact Or.inr ⟨q,Or.inr hq,h1⟩
  ·rintro (h1 | ⟨q,rfl | hq,h1⟩)
   ·exact Or.inl (Or.inl h1)
   ·exact Or.inl (Or.inr (by omega))
   ·exact Or.inr ⟨q,hq,h1⟩
theorem unn_sps (s:OSet):unn (sps s)=s:=by
 have ok:=spOk s 256
 refine BitVec.eq_of_getLsbD_eq fun k hk=>?_
 rw [Bool.eq_iff_iff]
 unfold unn
 rw [unn_fold k (sps s) oz (fun p hp=>ok.le p hp)]
 have:=ok.mem k hk
 unfold ohas at this
 rw [this]
 simp [oz,sps]
theorem sps_nil (s:OSet) (h:sps s=[]):s=oz:=by rw [←unn_sps s,h];rfl
theorem sps_first (s:OSet) (p:Nat × Nat) (l:List (Nat × Nat)) (h:sps s=p :: l):p.1 < 256∧ohas s p.1=true∧∀ b,b < p.1→ohas s b=false:=by
 have ok:=spOk s 256
 have e:spTo s 256=p :: l:=h
 rw [e] at ok
 have hp:=ok.le p (by simp)
 refine ⟨by omega,(ok.mem p.1 (by omega)).2 ⟨p,by simp,by omega,by omega⟩,fun b hb=>?_⟩
 cases hx:ohas s b
 ·rfl
 ·exfalso
  obtain ⟨q,hq,h1,h2⟩:=(ok.mem b (by omega)).1 hx
  -- every span begins at p.1 or later
  have key:∀ i,∀ hi:i < (p :: l).length,p.1≤((p :: l)[i]'hi).1:=by
   intro i
   induction i with
   | zero=>intro hi;exact Nat.le_refl _
   | succ i ih=>
    intro hi
    have h3:=ih (by omega)
    have h4:=ok.apart i hi
    have h5:=ok.le _ (List.getElem_mem (l:=p :: l) (n:=i) (by omega))
    omega
  obtain ⟨i,hi,rfl⟩:=List.getElem_of_mem hq
  have:=key i hi
  omega
end Go.Proofs.YtbgfankoojjejaaGreatDoor
namespace Go.Proofs.YtbgfankoojjejaaGreatDoor
inductive Tr where
 | mk (kind:Int) (set:OSet) (mn mx num:Int) (kids:List Tr)
def Tr.kind:Tr→Int | .mk k _ _ _ _ _=>k
def Tr.set:Tr→OSet | .mk _ s _ _ _ _=>s
def Tr.mn:Tr→Int | .mk _ _ a _ _ _=>a
def Tr.mx:Tr→Int | .mk _ _ _ b _ _=>b
def Tr.num:Tr→Int | .mk _ _ _ _ c _=>c
def Tr.parts:Tr→List Tr | .mk _ _ _ _ _ ps=>ps
def tz:Tr:=.mk 0 oz 0 0 0 []
instance:Inhabited Tr:=⟨tz⟩
end Go.Proofs.YtbgfankoojjejaaGreatDoor
namespace Go.Proofs.YtbgfankoojjejaaGreatDoor
inductive Nd where
 | empty
 | one (s:OSet)
 | cat (l:List Nd)
 | alt (l:List Nd)
 | rep (d:Nd) (mn mx:Int)
 | group (num:Int) (d:Nd)
 | back (num:Int)
 | start
 | fin
instance:Inhabited Nd:=⟨.empty⟩
def nkids:Nd→List Nd
 | .cat l=>l
 | .alt l=>l
 | .rep d _ _=>[d]
 | .group _ d=>[d]
 | _=>[]
mutual
/-- How many nodes. -/
def nsize:Nd→Nat
 | .cat l=>1+nsizes l
 | .alt l=>1+nsizes l
 | .rep d _ _=>1+nsize d
 | .group _ d=>1+nsize d
 | _=>1
def nsizes:List Nd→Nat
 | []=>0
 | d :: ds=>nsize d+nsizes ds
end
mutual
/-- How many groups. -/
def ngroups:Nd→Nat
 | .cat l=>ngroupss l
 | .alt l=>ngroupss l
 | .rep d _ _=>ngroups d
 | .group _ d=>ngroups d+1
 | _=>0
def ngroupss:List Nd→Nat
 | []=>0
 | d :: ds=>ngroups d+ngroupss ds
end
mutual
/-- Are two the same? -/
def nsame:Nd→Nd→Bool
 | .empty,.empty=>true
 | .one s,.one t=>decide (s=t)
 | .cat l,.cat m=>nsames l m
 | .alt l,.alt m=>nsames l m
 | .rep d a b,.rep e a' b'=>decide (a=a') && decide (b=b') && nsame d e
 | .group n d,.group m e=>decide (n=m) && nsame d e
 | .back n,.back m=>decide (n=m)
 | .start,.start=>true
 | .fin,.fin=>true
 | _,_=>false
def nsames:List Nd→List Nd→Bool
 | [],[]=>true
 | d :: ds,e :: es=>nsame d e && nsames ds es
 | _,_=>false
end
def inCat:Nd→Bool
 | .empty=>false
 | .cat _=>false
 | .alt _=>false
 | _=>true
def inAlt:Nd→Bool
 | .alt _=>false
 | _=>true
def inRep:Nd→Bool
 | .empty=>false
 | .start=>false
 | .fin=>false
 | .cat _=>false
 | .alt _=>false
 | _=>true
def okRep (mn mx:Int):Bool:=decide (0≤mn) && decide (mn≤255) && (decide (mx=-1) || (decide (mn≤mx) && decide (mx≤255)))
mutual
/-- Is a node right, when so many groups were opened, and these were closed? What was opened and closed then. -/
def nright:Nd→Int→List Int→Option (Int × List Int)
 | .cat l,o,c=>if decide (2≤l.length) && l.all inCat then nrights l o c else none
 | .alt l,o,c=>if decide (2≤l.length) && l.all inAlt then nrights l o c else none
 | .rep d mn mx,o,c=>if okRep mn mx && inRep d then nright d o c else none
 | .group n d,o,c=>if n=o+1 then (nright d (o+1) c).map fun r=>(r.1,r.2++[n]) else none
 | .back n,o,c=>if c.contains n then some (o,c) else none
 | _,o,c=>some (o,c)
def nrights:List Nd→Int→List Int→Option (Int × List Int)
 | [],o,c=>some (o,c)
 | d :: ds,o,c=>match nright d o c with
  | none=>none
  | some r=>nrights ds r.1 r.2
end
theorem nsize_kids (d:Nd):nsize d=1+nsizes (nkids d):=by cases d <;> simp [nsize,nkids,nsizes]
theorem nsizes_append (a b:List Nd):nsizes (a++b)=nsizes a+nsizes b:=by
 induction a with
 | nil=>simp [nsizes]
 | cons t ts ih=>rw [List.cons_append,nsizes,nsizes,ih];omega
def ngrp:Nd→Bool
 | .group _ _=>true
 | _=>false
def nbck:Nd→Bool
 | .back _=>true
 | _=>false
theorem nsizes_length (ps:List Nd):ps.length≤nsizes ps:=by
 induction ps with
 | nil=>simp [nsizes]
 | cons t ts ih=>have:=nsize_kids t;rw [nsizes,List.length_cons];omega
def nhead:Nd→Nd→Bool
 | .empty,.empty=>true
 | .one s,.one t=>decide (s=t)
 | .cat _,.cat _=>true
 | .alt _,.alt _=>true
 | .rep _ a b,.rep _ a' b'=>decide (a=a') && decide (b=b')
 | .group n _,.group m _=>decide (n=m)
 | .back n,.back m=>decide (n=m)
 | .start,.start=>true
 | .fin,.fin=>true
 | _,_=>false
theorem nsame_kids (d e:Nd):nsame d e=(nhead d e && nsames (nkids d) (nkids e)):=by
 cases d <;> cases e <;> simp [nsame,nhead,nkids,nsames]
theorem nsames_len (l m:List Nd) (h:l.length≠m.length):nsames l m=false:=by
 induction l generalizing m with
 | nil=>
  cases m with
  | nil=>simp at h
  | cons e es=>rfl
 | cons d ds ih=>
  cases m with
  | nil=>rfl
  | cons e es=>rw [nsames,ih es (by simpa using h),Bool.and_false]
end Go.Proofs.YtbgfankoojjejaaGreatDoor
namespace Go.Proofs.YtbgfankoojjejaaGreatDoor
def jpart:Nd→List Nd
 | .empty=>[]
 | .cat l=>l
 | d=>[d]
def cpart:Nd→List Nd
 | .alt l=>l
 | d=>[d]
def jflat (l:List Nd):List Nd:=l.flatMap jpart
def cflat (l:List Nd):List Nd:=l.flatMap cpart
def njoin (l:List Nd):Nd:=match jflat l with
 | []=>.empty
 | [d]=>d
 | ds=>.cat ds
def nchoose (l:List Nd):Nd:=match cflat l with
 | []=>.empty
 | [d]=>d
 | ds=>.alt ds
theorem flat_take (f:Nd→List Nd) (l:List Nd) (k:Nat) (h:k < l.length):(l.take (k+1)).flatMap f=(l.take k).flatMap f++f l[k]:=by
 rw [List.take_succ_eq_append_getElem h,List.flatMap_append]
 simp
theorem flat_le (f:Nd→List Nd) (l:List Nd) (k:Nat):((l.take k).flatMap f).length≤(l.flatMap f).length:=by
 have h:=congrArg List.length (congrArg (List.flatMap f) (List.take_append_drop k l))
 rw [List.flatMap_append,List.length_append] at h
 omega
end Go.Proofs.YtbgfankoojjejaaGreatDoor
namespace Go.Proofs.YtbgfankoojjejaaGreatDoor
def fitsM (d:Nd) (es:List Bool):Bool:=match d with
 | .cat l=>decide (2≤l.length) && l.all inCat
 | .alt l=>decide (2≤l.length) && l.all inAlt
 | .rep d mn mx=>okRep mn mx && inRep d
 | .group n _=>decide (n=(es.length:Int)+1)
 | .back n=>decide (1≤n) && decide (n≤es.length) && es.getD (n - 1).toNat false
 | _=>true
end Go.Proofs.YtbgfankoojjejaaGreatDoor
namespace Go.Proofs.YtbgfankoojjejaaGreatDoor
mutual
/-- What comes of a node, and of nodes. -/
def evs:Nd→List (Nd × Bool)
 | .cat l=>(.cat l,true) :: (evss l++[(.cat l,false)])
 | .alt l=>(.alt l,true) :: (evss l++[(.alt l,false)])
 | .rep d a b=>(.rep d a b,true) :: (evs d++[(.rep d a b,false)])
 | .group n d=>(.group n d,true) :: (evs d++[(.group n d,false)])
 | .empty=>[(.empty,true),(.empty,false)]
 | .one s=>[(.one s,true),(.one s,false)]
 | .back n=>[(.back n,true),(.back n,false)]
 | .start=>[(.start,true),(.start,false)]
 | .fin=>[(.fin,true),(.fin,false)]
def evss:List Nd→List (Nd × Bool)
 | []=>[]
 | d :: ds=>evs d++evss ds
end
theorem evs_kids (d:Nd):evs d=(d,true) :: (evss (nkids d)++[(d,false)]):=by cases d <;> simp [evs,nkids,evss]
mutual
theorem evs_len:∀ d:Nd,(evs d).length=2 * nsize d
 | .cat l=>by have:=evss_len l;simp [evs,nsize,this];omega
 | .alt l=>by have:=evss_len l;simp [evs,nsize,this];omega
 | .rep d _ _=>by have:=evs_len d;simp [evs,nsize,this];omega
 | .group _ d=>by have:=evs_len d;simp [evs,nsize,this];omega
 | .empty=>rfl
 | .one _=>rfl
 | .back _=>rfl
 | .start=>rfl
 | .fin=>rfl
theorem evss_len:∀ l:List Nd,(evss l).length=2 * nsizes l
 | []=>rfl
 | d :: ds=>by have:=evs_len d;have:=evss_len ds;simp [evss,nsizes, *];omega
end
def rem:List (Nd × List Nd)→List (Nd × Bool)
 | []=>[]
 | x :: s=>rem s++(evss x.2++[(x.1,false)])
theorem rem_snoc (s:List (Nd × List Nd)) (d:Nd) (r:List Nd):rem (s++[(d,r)])=evss r++((d,false) :: rem s):=by
 induction s with
 | nil=>simp [rem]
 | cons x s ih=>rw [List.cons_append,rem,ih,rem];simp
theorem rem_len (s:List (Nd × List Nd)):s.length≤(rem s).length:=by
 induction s with
 | nil=>simp
 | cons x s ih=>rw [rem];simp;omega
end Go.Proofs.YtbgfankoojjejaaGreatDoor
namespace Go.Proofs.YtbgfankoojjejaaGreatDoor
def nnum:Nd→Int
 | .group n _=>n
 | _=>0
inductive RS where
 | no
 | bad
 | ok (es:List Bool)
def rs (s:RS) (x:Nd × Bool):RS:=match s with
 | .ok es=>if x.2 then (if fitsM x.1 es then .ok (if ngrp x.1 then es++[false] else es) else .no)
  else if ngrp x.1 then (if 1≤nnum x.1∧nnum x.1≤(es.length:Int) then .ok (es.set (nnum x.1 - 1).toNat true) else .bad) else .ok es
 | .no=>.no
 | .bad=>.bad
def rsf (s:RS) (l:List (Nd × Bool)):RS:=l.foldl rs s
theorem rsf_append (s:RS) (l m:List (Nd × Bool)):rsf s (l++m)=rsf (rsf s l) m:=by unfold rsf;rw [List.foldl_append]
theorem rsf_cons (s:RS) (x:Nd × Bool) (l:List (Nd × Bool)):rsf s (x :: l)=rsf (rs s x) l:=rfl
theorem rsf_no (l:List (Nd × Bool)):rsf .no l=.no:=by
 induction l with
 | nil=>rfl
 | cons x l ih=>rw [rsf_cons];exact ih
def RR (es:List Bool) (o:Int) (c:List Int):Prop:=o=(es.length:Int)∧∀ n:Int,c.contains n=(decide (1≤n) && decide (n≤(es.length:Int)) && es.getD (n - 1).toNat false)
def ROk (es:List Bool) (s:RS) (r:Option (Int × List Int)):Prop:=match r with
 | none=>s=.no
 | some q=>∃ es',s=.ok es'∧RR es' q.1 q.2∧es.length≤es'.length
theorem rok_refl {es:List Bool} {o:Int} {c:List Int} (h:RR es o c):ROk es (.ok es) (some (o,c)):=⟨es,rfl,h,Nat.le_refl _⟩
theorem rs_in_no {d:Nd} {es:List Bool} (h:fitsM d es=false):rs (.ok es) (d,true)=.no:=by simp [rs,h]
theorem rs_in {d:Nd} {es:List Bool} (h:fitsM d es=true) (hg:ngrp d=false):rs (.ok es) (d,true)=.ok es:=by simp [rs,h,hg]
theorem rs_out {d:Nd} (s:RS) (hg:ngrp d=false):rs s (d,false)=s:=by cases s <;> simp [rs,hg]
theorem rr_open {es:List Bool} {o:Int} {c:List Int} (h:RR es o c):RR (es++[false]) (o+1) c:=by
 obtain ⟨h1,h2⟩:=h
 refine ⟨by simp;omega,fun n=>?_⟩
 rw [h2 n]
 by_cases hn:n≤(es.length:Int)
 ·by_cases hn1:1≤n
  ·rw [List.getD_eq_getElem?_getD,List.getD_eq_getElem?_getD,List.getElem?_append_left (by omega)]
   rw [decide_eq_true hn,decide_eq_true (show n≤((es++[false]).length:Int) by simp;omega)]
  ·simp [hn1]
 ·by_cases hn1:n=(es.length:Int)+1
  ·subst hn1
   simp
  ·simp [hn]
   intro _ hh
   omega
theorem rr_close {es:List Bool} {o:Int} {c:List Int} (h:RR es o c) {n:Int} (h1:1≤n) (h2:n≤(es.length:Int)):RR (es.set (n - 1).toNat true) o (c++[n]):=by
 obtain ⟨g1,g2⟩:=h
 refine ⟨by simpa using g1,fun m=>?_⟩
 have hc:(c++[n]).contains m=(c.contains m || (m == n)):=by
  simp
  rfl
 rw [hc,g2 m,List.length_set]
 by_cases hm:m=n
 ·subst hm
  rw [decide_eq_true h1,decide_eq_true h2,@List.getD_eq_getElem?_getD _ (es.set (m - 1).toNat true),List.getElem?_set_self (by omega)]
  simp
 ·have hne:(n - 1).toNat≠(m - 1).toNat∨¬ 1≤m:=by omega
  rw [beq_eq_false_iff_ne.2 hm,Bool.or_false]
  rcases hne with hne | hne
  ·rw [List.getD_eq_getElem?_getD,List.getD_eq_getElem?_getD,List.getElem?_set_ne hne]
  ·simp [hne]
mutual
theorem evs_right:∀ (d:Nd) (es:List Bool) (o:Int) (c:List Int),RR es o c→ROk es (rsf (.ok es) (evs d)) (nright d o c)
 | .cat l,es,o,c,h=>by
  rw [evs,rsf_cons,rsf_append,nright]
  cases hf:decide (2≤l.length) && l.all inCat
  ·rw [rs_in_no (show fitsM (.cat l) es=false from hf),rsf_no,rsf_no];rfl
  ·rw [rs_in (show fitsM (.cat l) es=true from hf) rfl,rsf_cons,rs_out _ rfl]
   exact evss_right l es o c h
 | .alt l,es,o,c,h=>by
  rw [evs,rsf_cons,rsf_append,nright]
  cases hf:decide (2≤l.length) && l.all inAlt
  ·rw [rs_in_no (show fitsM (.alt l) es=false from hf),rsf_no,rsf_no];rfl
  ·rw [rs_in (show fitsM (.alt l) es=true from hf) rfl,rsf_cons,rs_out _ rfl]
   exact evss_right l es o c h
 | .rep d mn mx,es,o,c,h=>by
  rw [evs,rsf_cons,rsf_append,nright]
  cases hf:okRep mn mx && inRep d
  ·rw [rs_in_no (show fitsM (.rep d mn mx) es=false from hf),rsf_no,rsf_no];rfl
  ·rw [rs_in (show fitsM (.rep d mn mx) es=true from hf) rfl,rsf_cons,rs_out _ rfl]
   exact evs_right d es o c h
 | .group n d,es,o,c,h=>by
  rw [evs,rsf_cons,rsf_append,nright]
  by_cases hn:n=o+1
  ·rw [if_pos hn]
   have hf:fitsM (.group n d) es=true:=decide_eq_true (by rw [hn,h.1])
   have hi:rs (.ok es) (.group n d,true)=.ok (es++[false]):=by simp [rs,hf,ngrp]
   rw [hi]
   have ih:=evs_right d (es++[false]) (o+1) c (rr_open h)
   cases hr:nright d (o+1) c with
   | none=>
    rw [hr] at ih
    rw [show rsf (.ok (es++[false])) (evs d)=.no from ih,rsf_no]
    rfl
   | some q=>
    rw [hr] at ih
    obtain ⟨es',h1,h2,h3⟩:=ih
    rw [h1,rsf_cons]
    simp at h3
    have hlo:1≤n:=by have:=h.1;omega
    have hhi:n≤(es'.length:Int):=by have:=h.1;omega
    have ho:rs (.ok es') (.group n d,false)=.ok (es'.set (n - 1).toNat true):=by simp [rs,ngrp,nnum,hlo,hhi]
    rw [ho]
    exact ⟨_,rfl,rr_close h2 hlo hhi,by rw [List.length_set];omega⟩
  ·rw [if_neg hn]
   have hf:fitsM (.group n d) es=false:=decide_eq_false (by rw [←h.1];exact hn)
   rw [rs_in_no hf,rsf_no,rsf_no]
   rfl
 | .back n,es,o,c,h=>by
  rw [evs,rsf_cons,nright,h.2 n]
  cases hf:(decide (1≤n) && decide (n≤(es.length:Int)) && es.getD (n - 1).toNat false)
  ·rw [rs_in_no (show fitsM (.back n) es=false from hf),rsf_no];rfl
  ·rw [rs_in (show fitsM (.back n) es=true from hf) rfl,rsf_cons,rs_out _ rfl]
   exact rok_refl h
 | .empty,es,o,c,h=>rok_refl h
 | .one _,es,o,c,h=>rok_refl h
 | .start,es,o,c,h=>rok_refl h
 | .fin,es,o,c,h=>rok_refl h
theorem evss_right:∀ (l:List Nd) (es:List Bool) (o:Int) (c:List Int),RR es o c→ROk es (rsf (.ok es) (evss l)) (nrights l o c)
 | [],es,o,c,h=>rok_refl h
 | d :: ds,es,o,c,h=>by
  rw [evss,rsf_append,nrights]
  have ih:=evs_right d es o c h
  cases hr:nright d o c with
  | none=>
   rw [hr] at ih
   rw [show rsf (.ok es) (evs d)=.no from ih,rsf_no]
   rfl
  | some q=>
   rw [hr] at ih
   obtain ⟨es',h1,h2,h3⟩:=ih
   rw [h1]
   have ih2:=evss_right ds es' q.1 q.2 h2
   show ROk es _ (nrights ds q.1 q.2)
   cases hr2:nrights ds q.1 q.2 with
   | none=>rw [hr2] at ih2;exact ih2
   | some q2=>
    rw [hr2] at ih2
    obtain ⟨es2,g1,g2,g3⟩:=ih2
    exact ⟨es2,g1,g2,Nat.le_trans h3 g3⟩
end
theorem rr_nil:RR [] 0 []:=⟨rfl,fun n=>by
 by_cases h1:1≤n
 ·have h2:decide (n≤(([]:List Bool).length:Int))=false:=decide_eq_false (by simp;omega)
  rw [h2];simp
 ·rw [decide_eq_false h1];rfl⟩
end Go.Proofs.YtbgfankoojjejaaGreatDoor
namespace Go.Proofs.YtbgfankoojjejaaGreatDoor
theorem nrights_one (d:Nd) (o:Int) (c:List Int):nrights [d] o c=nright d o c:=by
 rw [nrights]
 cases nright d o c with
 | none=>rfl
 | some r=>rfl
theorem nrights_append (l m:List Nd) (o:Int) (c:List Int):nrights (l++m) o c=(nrights l o c).bind fun r=>nrights m r.1 r.2:=by
 induction l generalizing o c with
 | nil=>rfl
 | cons d ds ih=>
  rw [List.cons_append,nrights,nrights]
  cases nright d o c with
  | none=>rfl
  | some r=>exact ih r.1 r.2
end Go.Proofs.YtbgfankoojjejaaGreatDoor
namespace Go.Proofs.YtbgfankoojjejaaGreatDoor
theorem nsizes_jpart (d:Nd):nsizes (jpart d)≤nsize d:=by cases d <;> simp [jpart,nsize,nsizes]
theorem nsizes_cpart (d:Nd):nsizes (cpart d)≤nsize d:=by cases d <;> simp [cpart,nsize,nsizes]
mutual
theorem nsame_refl:∀ d:Nd,nsame d d=true
 | .cat l=>nsames_refl l
 | .alt l=>nsames_refl l
 | .rep d a b=>by simp [nsame,nsame_refl d]
 | .group n d=>by simp [nsame,nsame_refl d]
 | .one s=>by simp [nsame]
 | .back n=>by simp [nsame]
 | .empty=>rfl
 | .start=>rfl
 | .fin=>rfl
theorem nsames_refl:∀ l:List Nd,nsames l l=true
 | []=>rfl
 | d :: ds=>by rw [nsames,nsame_refl d,nsames_refl ds];rfl
end
end Go.Proofs.YtbgfankoojjejaaGreatDoor
namespace Go.Proofs.YtbgfankoojjejaaGreatDoor
def wide1 (b:UInt8):List UInt8:=if b.toNat < 128 then [b] else [UInt8.ofNat (192+b.toNat / 64),UInt8.ofNat (128+b.toNat % 64)]
def wideL (l:List UInt8):List UInt8:=l.flatMap wide1
theorem ofNat_self (b:UInt8):UInt8.ofNat b.toNat=b:=by simp
theorem ofNat_toNat (n:Nat) (h:n < 256):(UInt8.ofNat n).toNat=n:=by simp;omega
theorem wideL_cons (b:UInt8) (l:List UInt8):wideL (b :: l)=wide1 b++wideL l:=by simp [wideL]
theorem wideL_snoc (l:List UInt8) (b:UInt8):wideL (l++[b])=wideL l++wide1 b:=by simp [wideL]
theorem wide1_len (b:UInt8):1≤(wide1 b).length∧(wide1 b).length≤2:=by unfold wide1;split <;> simp
theorem wideL_len:∀ l:List UInt8,(wideL l).length≤2 * l.length
 | []=>by simp [wideL]
 | b :: l=>by have h:=wideL_len l;have:=wide1_len b;rw [wideL_cons,List.length_append,List.length_cons];omega
theorem rune_byte:∀ n:Fin 256,Lib.encodeRune (n.val:Int)=wide1 (UInt8.ofNat n.val):=by decide +kernel
theorem rune_wide (b:UInt8):Lib.encodeRune (b.toNat:Int)=wide1 b:=by
 have h:=rune_byte ⟨b.toNat,b.toNat_lt⟩
 simp only [ofNat_self] at h
 exact h
/-- Decoding by the list's own bytes. -/
theorem getD_get (s:ByteArray) (i:Nat):s.data.toList.getD i 0=s.get! i:=by
 cases s with
 | mk d=>
  show d.toList.getD i 0=d[i]!
  by_cases h:i < d.size
  ·rw [getElem!_pos d i h];simp [List.getD,h]
  ·rw [getElem!_neg d i h];simp [List.getD,h];rfl
theorem size_list (s:ByteArray):s.size=s.data.toList.length:=rfl
theorem decode_list (s:ByteArray) (pos:Nat):Utf8.decode s pos=Lib.decodeN (s.data.toList.length - pos) (s.data.toList.getD pos 0).toNat (s.data.toList.getD (pos+1) 0).toNat (s.data.toList.getD (pos+2) 0).toNat (s.data.toList.getD (pos+3) 0).toNat:=by
 rw [Lib.decode_at,←getD_get,←getD_get,←getD_get,←getD_get,size_list]
theorem decodeN_low (n b c d e:Nat) (h:b < 128):Lib.decodeN n b c d e=(b,1):=by rw [Lib.decodeN,if_pos h]
theorem decodeN_two (n b c d e:Nat) (hn:1 < n) (h:b=194∨b=195) (h1:128≤c) (h2:c < 192):Lib.decodeN n b c d e=((b - 192) * 64+c - 128,2):=by
 rw [Lib.decodeN,if_neg (by omega),if_pos (by omega),if_pos (by omega)]
 refine Prod.ext ?_ rfl
 simp only
 omega
def txt (l:List UInt8):ByteArray:=⟨l.toArray⟩
theorem txt_size (l:List UInt8):(txt l).size=l.length:=by simp [txt,ByteArray.size]
theorem txt_list (l:List UInt8):(txt l).data.toList=l:=rfl
theorem txt_of (s:ByteArray):txt s.data.toList=s:=by cases s;rfl
/-- Decoding a wide text: the sign of the byte that stands there. -/
theorem decode_wide (a:List UInt8) (b:UInt8) (c:List UInt8) :
  Utf8.decode (txt (wideL a++(wide1 b++wideL c))) (wideL a).length=(b.toNat,(wide1 b).length):=by
 rw [decode_list,txt_list]
 have hb:=b.toNat_lt
 have g:∀ k,(wideL a++(wide1 b++wideL c)).getD ((wideL a).length+k) 0=(wide1 b++wideL c).getD k 0:=by
  intro k
  simp only [List.getD]
  rw [List.getElem?_append_right (by omega),show (wideL a).length+k - (wideL a).length=k by omega]
 have g0:=g 0
 rw [Nat.add_zero] at g0
 rw [g0,g 1,g 2,g 3,List.length_append,List.length_append]
 unfold wide1
 by_cases hl:b.toNat < 128
 ·rw [if_pos hl]
  simp only [List.cons_append,List.nil_append,List.getD_cons_zero]
  rw [decodeN_low _ _ _ _ _ hl]
  rfl
 ·rw [if_neg hl]
  simp only [List.cons_append,List.nil_append,List.getD_cons_zero,List.getD_cons_succ,List.length_cons,List.length_nil]
  have e1:(UInt8.ofNat (192+b.toNat / 64)).toNat=192+b.toNat / 64:=ofNat_toNat _ (by omega)
  have e2:(UInt8.ofNat (128+b.toNat % 64)).toNat=128+b.toNat % 64:=ofNat_toNat _ (by omega)
  rw [decodeN_two _ _ _ _ _ (by omega) (by rw [e1];omega) (by rw [e2];omega) (by rw [e2];omega),e1,e2]
  refine Prod.ext ?_ rfl
  simp only
  omega
end Go.Proofs.YtbgfankoojjejaaGreatDoor
