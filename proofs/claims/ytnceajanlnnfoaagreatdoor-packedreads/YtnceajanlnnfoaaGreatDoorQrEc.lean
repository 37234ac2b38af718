/-The document's one and Known (quadrilleref12): a name in a row of name. -/
import Derived.Test.YtnceajanlnnfoaaGreatDoorQrQa
set_option maxRecDepth 20000
set_option maxHeartbeats 4000000
namespace Go.Proofs.YtnceajanlnnfoaaGreatDoor
open Go.RowKit
def wds (cur:List UInt8):List UInt8->List (List UInt8)
 | []=>[cur]
 | c::cs=>if c=32 then cur::wds [] cs else wds (cur++[c]) cs
def oneB (s:ByteArray) (l:List UInt8):Bool:=decide (s.toList≠[])&&(wds [] l).any (fun x=>x==s.toList)
def I7 (s:ByteArray) (l:List UInt8) (f i:Nat):Bool:=decide (s.toList≠[])&&(wds ((l.take i).drop f) (l.drop i)).any (fun x=>x==s.toList)
theorem jBJ (s:ByteArray)(l:List UInt8)(f:Nat):I7 s l f l.length=(decide (s.toList≠[])&&((l.take l.length).drop f==s.toList)):=by
 unfold I7;rw[List.drop_length,wds];simp
theorem jBI {s:ByteArray}{l:List UInt8}{f i:Nat}(h:i<l.length)(hb:l[i]=32):I7 s l f i=(decide (s.toList≠[])&&((l.take i).drop f==s.toList)||I7 s l (i+1) (i+1)):=by
 unfold I7;rw[List.drop_eq_getElem_cons h,wds,if_pos hb];have:(l.take (i+1)).drop (i+1)=[]:=by rw[List.drop_eq_nil_iff,List.length_take];omega
 rw[this];simp only[List.any_cons];cases decide (s.toList≠[]) <;> simp
theorem jBK {s:ByteArray}{l:List UInt8}{f i:Nat}(h:i<l.length)(hf:f<=i)(hb:l[i]≠32):I7 s l f i=I7 s l f (i+1):=by
 unfold I7;rw[List.drop_eq_getElem_cons h,wds,if_neg hb];have:(l.take (i+1)).drop f=(l.take i).drop f++[l[i]]:=by
  rw[List.take_add_one,List.getElem?_eq_getElem h,List.drop_append_of_le_length (by rw[List.length_take];omega)]
  rfl
 rw[this]
theorem jBL (s:ByteArray)(l:List UInt8)(hl:l.length<=1048576)(w:World):
 Calls Tryz.prog 224 #[.string s,.string ⟨l.toArray⟩] w fun e w'=>e=.returned (.bool (oneB s l))/\w'=w:=by
 have h0:oneB s l=I7 s l 0 0:=by unfold oneB I7;simp
 rw[h0];obtain⟨ANS,hA⟩:∃A,I7 s l 0 0=A:=⟨_,rfl⟩;rw[hA];have HA:Hid (I7 s l 0 0=ANS):=hA;have hsz:(ByteArray.mk l.toArray).size=l.length:=by simp[ByteArray.size]
 obtain⟨n,hn⟩:∃n,l.length=n:=⟨_,rfl⟩;have HN:Hid (l.length=n):=hn;have HL:Hid (n<=1048576):=by show _<=_;omega
 have HEX:Hid (∀f i:Nat,(ByteArray.mk l.toArray).extract f i=⟨((l.take i).drop f).toArray⟩):=fun f i=>by
  show _=_;rw[ByteArray.extract_mk]
  congr 1
  apply Array.ext'
  simp[List.drop_take]
 rw[hn] at hsz;clear hA h0 hl hn;go_enter Tryz.func224,Tryz.ntmps224;go_wp2_with fail;go_loopw[5,6] (fun f i wr=>wr=w/\∃a b:Nat,f=.int .i64 a/\i=.int .i64 b/\((a<=b/\b<=n/\I7 s l a b=ANS)∨(b=n+1/\ANS=false))) (fun _ i _=>n+2-(RowKit.intOf i).toNat)
 case atStart=>exact⟨rfl,0,0,rfl,rfl,.inl ⟨Nat.le_refl _,Nat.zero_le _,HA.out⟩⟩
 case round=>
  obtain⟨rfl,a,b,rfl,rfl,hab⟩:=hrel;rcases hab with ⟨h1,h2,h3⟩|⟨rfl,h3⟩
  ·have j1:(b:Int)<=(n:Int):=(by omega);have jb:(b:Int)+1<=9223372036854775807:=(by have:=HL.out;omega);have hx:=HEX.out a b;have ja:(a:Int)<=(b:Int):=(by omega);have tl:(ByteArray.mk ((l.take b).drop a).toArray).toList=(l.take b).drop a:=ByteArray.toList_mk _;by_cases hbn:b=n
   ·subst hbn;have HE:Hid (ANS=(decide (s.toList≠[])&&((l.take b).drop a==s.toList))):=by
     show _=_;rw[<- h3,<- HN.out,jBJ]
    clear h3 j1 h1 h2 HA;generalize (l.take b).drop a=X at *;cases hq:X==s.toList with
    | true=>
     cases hs:s.toList==([]:List UInt8) with
     | true=>
      have HE2:Hid (ANS=false):=(by show _=_;rw[HE.out];simp at hs;simp[hs]);clear HE;go_wp2_with fail;go_roundw
      case rel=>exact⟨trivial,b+1,b+1,by go_num,by go_num,.inr ⟨rfl,HE2.out⟩⟩
      case measure=>simp only[RowKit.intOf];omega
     | false=>
      have HE2:Hid (ANS=true):=(by show _=_;rw[HE.out,hq];simp at hs;simp[hs]);clear HE;go_wp21;go_ret;exact⟨j4 HE2.out.symm,rfl⟩
    | false=>
     have HE2:Hid (ANS=false):=(by show _=_;rw[HE.out,hq];simp);clear HE;go_wp2_with fail;go_roundw
     case rel=>exact⟨trivial,b+1,b+1,by go_num,by go_num,.inr ⟨rfl,HE2.out⟩⟩
     case measure=>simp only[RowKit.intOf];omega
   ·have hlt:b<n:=(by omega);have hll:b<l.length:=(by rw[HN.out];exact hlt);have hbsz:b<(ByteArray.mk l.toArray).size:=(by rw[hsz];exact hlt);have hgt:(ByteArray.mk l.toArray)[b]'hbsz=l[b]:=rfl;have jbn:((b:Int)==(n:Int))=false:=(by simp;omega);have jb2:(b:Int)<(n:Int):=(by omega);have jb0:(0:Int)<=(b:Int):=(by omega);by_cases h32:l[b]=32
    ·have HE:Hid (ANS=(decide (s.toList≠[])&&((l.take b).drop a==s.toList)||I7 s l (b+1) (b+1))):=by
      show _=_;rw[<- h3,jBI hll h32]
     have h32n:(l[b]).toNat=32:=(by rw[h32];rfl);clear h3 h1 h2 HA h32;generalize l[b]=ch at *;have h32j:((ch.toNat:Nat):Int)=32:=(by omega);clear h32n;generalize (l.take b).drop a=X at *;generalize hO:I7 s l (b+1) (b+1)=O at *;cases hq:X==s.toList with
     | true=>
      cases hs:s.toList==([]:List UInt8) with
      | true=>
       have HE2:Hid (O=ANS):=(by show _=_;rw[HE.out];simp at hs;simp[hs]);have HO:Hid (I7 s l (b+1) (b+1)=O):=hO;clear HE hO;go_wp2_with fail;go_roundw
       case rel=>exact⟨trivial,b+1,b+1,by go_num,by go_num,.inl ⟨Nat.le_refl _,by omega,HO.out.trans HE2.out⟩⟩
       case measure=>simp only[RowKit.intOf];omega
      | false=>
       have HE2:Hid (ANS=true):=(by show _=_;rw[HE.out,hq];simp at hs;simp[hs]);clear HE hO;go_wp21;go_ret;exact⟨j4 HE2.out.symm,rfl⟩
     | false=>
      have HE2:Hid (O=ANS):=(by show _=_;rw[HE.out,hq];simp);have HO:Hid (I7 s l (b+1) (b+1)=O):=hO;clear HE hO;go_wp2_with fail;go_roundw
      case rel=>exact⟨trivial,b+1,b+1,by go_num,by go_num,.inl ⟨Nat.le_refl _,by omega,HO.out.trans HE2.out⟩⟩
      case measure=>simp only[RowKit.intOf];omega
    ·have HE:Hid (I7 s l a (b+1)=ANS):=(by show _=_;rw[<- h3,jBK hll h1 h32]);have h32n:¬(l[b]).toNat=32:=(fun e=>h32 (by rw[<- UInt8.toNat_inj];exact e));generalize l[b]=ch at *;have h32i:(((ch.toNat:Nat):Int)==32)=false:=(by simp;omega);have h32j:¬((ch.toNat:Nat):Int)=32:=(by omega);clear h3 HA;go_wp2_with fail;go_roundw
     case rel=>exact⟨trivial,a,b+1,rfl,by go_num,.inl ⟨by omega,by omega,HE.out⟩⟩
     case measure=>simp only[RowKit.intOf];omega
  ·have j1:¬((n+1:Nat):Int)<=(n:Int):=(by omega);have H3:Hid (ANS=false):=h3;clear h3;go_wp2_with fail;go_ret;exact⟨j4 H3.out.symm,rfl⟩
theorem j9t (s:ByteArray)(l:List UInt8)(nm:List ByteArray)(h:wds [] l=nm.map (fun n=>n.data.toList))(hne:∀n∈nm,n.data.toList≠[]):oneB s l=E5 s nm:=by
 unfold oneB E5;rw[h,List.any_map];rw[Bool.eq_iff_iff,Bool.and_eq_true,List.any_eq_true,List.any_eq_true];constructor
 ·rintro⟨_,n,hn,e⟩;refine⟨n,hn,?_⟩;simp only[Function.comp,beq_iff_eq] at e;rw[beq_iff_eq,Lib.toList_data n,e]
 ·rintro⟨n,hn,e⟩;rw[beq_iff_eq,Lib.toList_data n] at e;refine⟨?_,n,hn,?_⟩
  ·rw[decide_eq_true_eq,e];exact hne n hn
  ·simp only[Function.comp,beq_iff_eq];exact e.symm
theorem jD1 {s:ByteArray}{l:List UInt8}{nm:List ByteArray}(hl:l.length<=1048576)(h:wds [] l=nm.map (fun n=>n.data.toList))(hne:∀n∈nm,n.data.toList≠[])(w:World):
 Calls Tryz.prog 224 #[.string s,.string ⟨l.toArray⟩] w fun e w'=>e=.returned (.bool (E5 s nm))/\w'=w:=by
 rw[<- j9t s l nm h hne];exact jBL s l hl w
theorem V2 {s:ByteArray}{a b:Int}{c:Bool}(h:known s=(a,b,c)):Ending.returned (.tuple #[.int .i64 a,.int .i64 b,.bool c])=.returned (.tuple #[.int .i64 (known s).1,.int .i64 (known s).2.1,.bool (known s).2.2]):=by rw[h]
theorem jCq (s:ByteArray)(w:World):
 Calls Tryz.prog 212 #[.string s] w fun e w'=>e=.returned (.tuple #[.int .i64 (known s).1,.int .i64 (known s).2.1,.bool (known s).2.2])/\w'=w:=by
 have H1:Hid (∀(l:List UInt8) (nm:List ByteArray),l.length<=1048576->wds [] l=nm.map (fun n=>n.data.toList)->(∀n∈nm,n.data.toList≠[])->∀w,Calls Tryz.prog 224 #[.string s,.string ⟨l.toArray⟩] w fun e w'=>e=.returned (.bool (E5 s nm))/\w'=w):=fun l nm h1 h2 h3 w=>jD1 h1 h2 h3 w
 have e0:(s.toList==[78,65])=E5 s nm0:=by unfold E5 nm0;simp
 have e6:(s.toList==[67,72,79,79,83,69])=E5 s nm6:=by unfold E5 nm6;simp
 have HKn:Hid (known s=(if E5 s nm0=true then (0,0,true) else if E5 s nm1=true then (1,1,true) else if E5 s nm2=true then (2,2,true) else if E5 s nm3=true then (2,3,true) else if E5 s nm4=true then (3,3,true) else if E5 s nm5=true then (1,256,true) else if E5 s nm6=true then (2,256,true) else (0,0,false))):=rfl;go_enter Tryz.func212,Tryz.ntmps212;cases h0:E5 s nm0 with
 | true=>
  rw[h0] at e0;have HE:Hid (known s=(0,0,true)):=by show _=_;rw[HKn.out];simp[h0]
  go_wp2_with fail;refine bodyPost_ret (T8 rfl _ _ _) rfl ?_;exact⟨V2 HE.out,rfl⟩
 | false=>
 rw[h0] at e0;go_wp2_with fail;refine(H1.out _ nm1 ?a1 ?b1 ?c1 _).mono ?d1
 case a1=>decide
 case b1=>rfl
 case c1=>decide
 rintro e w1 ⟨rfl,hw1⟩;replace hw1:=hw1.symm;subst hw1;cases h1:E5 s nm1 with
 | true=>
  have HE:Hid (known s=(1,1,true)):=by show _=_;rw[HKn.out];simp[h0,h1]
  go_wp2_with fail;refine bodyPost_ret (T8 rfl _ _ _) rfl ?_;exact⟨V2 HE.out,rfl⟩
 | false=>
 go_wp2_with fail;refine(H1.out _ nm2 ?a2 ?b2 ?c2 _).mono ?d2
 case a2=>decide
 case b2=>rfl
 case c2=>decide
 rintro e w2 ⟨rfl,hw2⟩;replace hw2:=hw2.symm;subst hw2;cases h2:E5 s nm2 with
 | true=>
  have HE:Hid (known s=(2,2,true)):=by show _=_;rw[HKn.out];simp[h0,h1,h2]
  go_wp2_with fail;refine bodyPost_ret (T8 rfl _ _ _) rfl ?_;exact⟨V2 HE.out,rfl⟩
 | false=>
 go_wp2_with fail;refine(H1.out _ nm3 ?a3 ?b3 ?c3 _).mono ?d3
 case a3=>decide
 case b3=>rfl
 case c3=>decide
 rintro e w3 ⟨rfl,hw3⟩;replace hw3:=hw3.symm;subst hw3;cases h3:E5 s nm3 with
 | true=>
  have HE:Hid (known s=(2,3,true)):=by show _=_;rw[HKn.out];simp[h0,h1,h2,h3]
  go_wp2_with fail;refine bodyPost_ret (T8 rfl _ _ _) rfl ?_;exact⟨V2 HE.out,rfl⟩
 | false=>
 go_wp2_with fail;refine(H1.out _ nm4 ?a4 ?b4 ?c4 _).mono ?d4
 case a4=>decide
 case b4=>rfl
 case c4=>decide
 rintro e w4 ⟨rfl,hw4⟩;replace hw4:=hw4.symm;subst hw4;cases h4:E5 s nm4 with
 | true=>
  have HE:Hid (known s=(3,3,true)):=by show _=_;rw[HKn.out];simp[h0,h1,h2,h3,h4]
  go_wp2_with fail;refine bodyPost_ret (T8 rfl _ _ _) rfl ?_;exact⟨V2 HE.out,rfl⟩
 | false=>
 go_wp2_with fail;refine(H1.out _ nm5 ?a5 ?b5 ?c5 _).mono ?d5
 case a5=>decide
 case b5=>rfl
 case c5=>decide
 rintro e w5 ⟨rfl,hw5⟩;replace hw5:=hw5.symm;subst hw5;cases h5:E5 s nm5 with
 | true=>
  have HE:Hid (known s=(1,256,true)):=by show _=_;rw[HKn.out];simp[h0,h1,h2,h3,h4,h5]
  go_wp2_with fail;refine bodyPost_ret (T8 rfl _ _ _) rfl ?_;exact⟨V2 HE.out,rfl⟩
 | false=>
 cases h6:E5 s nm6 with
 | true=>
  rw[h6] at e6;have HE:Hid (known s=(2,256,true)):=by show _=_;rw[HKn.out];simp[h0,h1,h2,h3,h4,h5,h6]
  go_wp2_with fail;refine bodyPost_ret (T8 rfl _ _ _) rfl ?_;exact⟨V2 HE.out,rfl⟩
 | false=>
 rw[h6] at e6;have HE:Hid (known s=(0,0,false)):=by show _=_;rw[HKn.out];simp[h0,h1,h2,h3,h4,h5,h6]
 go_wp2_with fail;refine bodyPost_ret (T8 rfl _ _ _) rfl ?_;exact⟨V2 HE.out,rfl⟩
end Go.Proofs.YtnceajanlnnfoaaGreatDoor
