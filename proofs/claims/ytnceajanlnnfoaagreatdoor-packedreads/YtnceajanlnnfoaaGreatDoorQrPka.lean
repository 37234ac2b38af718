/-Packed, plain: numbers of k bytes; the sum of bytes. -/
import Derived.Test.YtnceajanlnnfoaaGreatDoorQrGa
namespace Go.Proofs.YtnceajanlnnfoaaGreatDoor
def le:Nat->Nat->List UInt8
 | 0,_=>[]
 | k+1,n=>UInt8.ofNat n::le k (n/256)
def unle:List UInt8->Nat
 | []=>0
 | b::l=>b.toNat+256*unle l
theorem D8:∀k n,(le k n).length=k
 | 0,_=>rfl
 | k+1,n=>by rw[le,List.length_cons,D8 k]
theorem j37:∀k n,unle (le k n)=n%256^k
 | 0,n=>by rw[le,unle,Nat.pow_zero,Nat.mod_one]
 | k+1,n=>by
  have e:(256:Nat)^(k+1)=256*256^k:=by rw[Nat.pow_succ,Nat.mul_comm]
  rw[le,unle,j37 k,UInt8.toNat_ofNat',e,Nat.mod_mul]
theorem j0s:∀l:List UInt8,unle l<256^l.length
 | []=>by rw[unle];exact Nat.one_pos
 | b::l=>by
  have h:=j0s l;have hb:=b.toNat_lt;rw[unle,List.length_cons,Nat.pow_succ];omega
theorem j2N:∀l:List UInt8,le l.length (unle l)=l
 | []=>rfl
 | b::l=>by
  have hb:=b.toNat_lt;rw[List.length_cons,le,unle,show (b.toNat+256*unle l)/256=unle l by omega,j2N l]
  congr 1
  apply UInt8.toNat_inj.1
  rw[UInt8.toNat_ofNat'];omega
def crcF (c:BitVec 32):BitVec 32:=(c >>> 1) ^^^ (if c.getLsbD 0 then 0xEDB88320#32 else 0#32)
theorem j8x (a b:BitVec 32):crcF (a ^^^ b)=crcF a ^^^ crcF b:=by
 unfold crcF;rw[BitVec.ushiftRight_xor_distrib,BitVec.getLsbD_xor];generalize a >>> 1=x;generalize b >>> 1=y;generalize 0xEDB88320#32=z;cases a.getLsbD 0 <;> cases b.getLsbD 0 <;> (simp only[Bool.bne_false,Bool.bne_true,Bool.not_true,Bool.not_false,if_true,if_false,Bool.false_eq_true];refine BitVec.eq_of_getLsbD_eq fun i _=>?_;simp only[BitVec.getLsbD_xor,BitVec.getLsbD_zero];cases x.getLsbD i <;> cases y.getLsbD i <;> cases z.getLsbD i <;> rfl)
def crcN:Nat->BitVec 32->BitVec 32
 | 0,c=>c
 | n+1,c=>crcN n (crcF c)
theorem j3q:∀n a b,crcN n (a ^^^ b)=crcN n a ^^^ crcN n b
 | 0,_,_=>rfl
 | n+1,a,b=>by rw[crcN,j8x,j3q n,crcN,crcN]
theorem j3p:∀(n:Nat) (c:BitVec 32),(∀i,i<n->c.getLsbD i=false)->crcN n c=c >>> n
 | 0,c,_=>by rw[crcN,BitVec.ushiftRight_zero]
 | n+1,c,h=>by
  have e:crcF c=c >>> 1:=by
   unfold crcF;rw[h 0 (by omega)];simp
  rw[crcN,e,j3p n (c >>> 1) (fun i hi=>by rw[BitVec.getLsbD_ushiftRight,Nat.add_comm];exact h _ (by omega)),<- BitVec.shiftRight_add,Nat.add_comm]
def crcB (c:BitVec 32) (b:UInt8):BitVec 32:=crcN 8 (c ^^^ BitVec.ofNat 32 b.toNat)
theorem j8t (c:BitVec 32)(b:UInt8):crcB c b=crcN 8 (BitVec.ofNat 32 ((c.toNat%256) ^^^ b.toNat)) ^^^ (c >>> 8):=by
 have hb:=b.toNat_lt;have e1:c=BitVec.ofNat 32 (c.toNat%256) ^^^ (c &&& 0xFFFFFF00#32):=by
  have:BitVec.ofNat 32 (c.toNat%256)=c &&& 0xFF#32:=by
   apply BitVec.eq_of_toNat_eq
   rw[BitVec.toNat_ofNat,BitVec.toNat_and,show (0xFF#32).toNat=2^8-1 from rfl,Nat.and_two_pow_sub_one_eq_mod];have:=c.isLt;omega
  rw[this];refine BitVec.eq_of_getLsbD_eq fun i hi=>?_
  rw[BitVec.getLsbD_xor,BitVec.getLsbD_and,BitVec.getLsbD_and];cases c.getLsbD i
  ·rfl
  ·rw[Bool.true_and,Bool.true_and]
   revert hi
   revert i
   decide
 have e2:(c &&& 0xFFFFFF00#32) >>> 8=c >>> 8:=by
  refine BitVec.eq_of_getLsbD_eq fun i hi=>?_
  rw[BitVec.getLsbD_ushiftRight,BitVec.getLsbD_ushiftRight,BitVec.getLsbD_and];by_cases h:8+i<32
  ·have:(0xFFFFFF00#32).getLsbD (8+i)=true:=by
    revert h hi
    revert i
    decide
   rw[this,Bool.and_true]
  ·rw[BitVec.getLsbD_of_ge c _ (by omega),Bool.false_and]
 unfold crcB
 conv=>lhs;rw[e1]
 rw[show BitVec.ofNat 32 (c.toNat%256) ^^^ (c &&& 0xFFFFFF00#32) ^^^ BitVec.ofNat 32 b.toNat=(BitVec.ofNat 32 (c.toNat%256) ^^^ BitVec.ofNat 32 b.toNat) ^^^ (c &&& 0xFFFFFF00#32) by rw[BitVec.xor_assoc,BitVec.xor_comm (c &&& _),<- BitVec.xor_assoc]];rw[j3q,j3p 8 (c &&& 0xFFFFFF00#32) (by
  intro i hi;rw[BitVec.getLsbD_and];have:(0xFFFFFF00#32).getLsbD i=false:=by
   revert hi
   revert i
   decide
  rw[this,Bool.and_false]),e2]
 congr 2
 apply BitVec.eq_of_toNat_eq
 have h1:c.toNat%256<2^8:=Nat.mod_lt _ (by decide);have h2:=Nat.xor_lt_two_pow h1 hb;have h3:c.toNat%256<2^32:=by omega
 have h4:b.toNat<2^32:=by omega
 have h5:c.toNat%256 ^^^ b.toNat<2^32:=by omega
 rw[BitVec.toNat_xor,BitVec.toNat_ofNat,BitVec.toNat_ofNat,BitVec.toNat_ofNat,Nat.mod_eq_of_lt h3,Nat.mod_eq_of_lt h4,Nat.mod_eq_of_lt h5]
def crcL (c:BitVec 32) (l:List UInt8):BitVec 32:=l.foldl crcB c
theorem j3o (c:BitVec 32)(l m:List UInt8):crcL c (l++m)=crcL (crcL c l) m:=List.foldl_append ..
def crcS (l:List UInt8):Nat:=(~~~ crcL (~~~ 0#32) l).toNat
theorem U4 (l:List UInt8):crcS l<4294967296:=(~~~ crcL (~~~ 0#32) l).isLt
end Go.Proofs.YtnceajanlnnfoaaGreatDoor
