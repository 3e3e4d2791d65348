/- Dates' texts: what a date's text is, what a text is parsed to. No program is named here. -/
import Derived.Test.YtjpilacbapibjaaGreatDoorDa
namespace Go.Proofs.YtjpilacbapibjaaGreatDoor.Da
def dig (k:Nat):UInt8:=UInt8.ofNat (48+k%10)
def dv (b:UInt8):Nat:=b.toNat-48
def dgB (b:UInt8):Bool:=decide (48≤b.toNat∧b.toNat≤57)
theorem dig_nat (k:Nat):(dig k).toNat=48+k%10:=by
 unfold dig
 rw [UInt8.toNat_ofNat']
 have:=Nat.mod_lt k (show 0<10 by decide)
 omega
theorem dv_dig (k:Nat):dv (dig k)=k%10:=by
 unfold dv
 rw [dig_nat]
 omega
theorem dgB_dig (k:Nat):dgB (dig k)=true:=by
 unfold dgB
 rw [dig_nat]
 have:=Nat.mod_lt k (show 0<10 by decide)
 exact decide_eq_true ⟨by omega,by omega⟩
theorem dig_dv {b:UInt8} (h:dgB b=true) {k:Nat} (hk:k%10=dv b):dig k=b:=by
 have h:=of_decide_eq_true h
 refine UInt8.toNat_inj.1 ?_
 rw [dig_nat,hk]
 unfold dv
 omega
theorem dv_lt {b:UInt8} (h:dgB b=true):dv b≤9:=by
 have h:=of_decide_eq_true h
 unfold dv
 omega
def dText (y m d:Nat):List UInt8:= [dig (y/1000),dig (y/100),dig (y/10),dig y,45,dig (m/10),dig m,45,dig (d/10),dig d]
def shB (s:List UInt8):Bool:=decide (s.length=10)&&(dgB (s.getD 0 0)&&dgB (s.getD 1 0)&&dgB (s.getD 2 0)&&dgB (s.getD 3 0)&&(s.getD 4 0==45)&&dgB (s.getD 5 0)&&dgB (s.getD 6 0)&&(s.getD 7 0==45)&&dgB (s.getD 8 0)&&dgB (s.getD 9 0))
def yOf (s:List UInt8):Nat:=1000*dv (s.getD 0 0)+100*dv (s.getD 1 0)+10*dv (s.getD 2 0)+dv (s.getD 3 0)
def mOf (s:List UInt8):Nat:=10*dv (s.getD 5 0)+dv (s.getD 6 0)
def dOf (s:List UInt8):Nat:=10*dv (s.getD 8 0)+dv (s.getD 9 0)
theorem text_len (y m d:Nat):(dText y m d).length=10:=rfl
theorem text_sh (y m d:Nat):shB (dText y m d)=true:=by
 unfold shB dText
 simp [dgB_dig]
theorem text_y {y m d:Nat} (h:y≤9999):yOf (dText y m d)=y:=by
 show 1000*dv (dig (y/1000))+100*dv (dig (y/100))+10*dv (dig (y/10))+dv (dig y)=y
 rw [dv_dig,dv_dig,dv_dig,dv_dig]
 omega
theorem text_m {y m d:Nat} (h:m≤99):mOf (dText y m d)=m:=by
 show 10*dv (dig (m/10))+dv (dig m)=m
 rw [dv_dig,dv_dig]
 omega
theorem text_d {y m d:Nat} (h:d≤99):dOf (dText y m d)=d:=by
 show 10*dv (dig (d/10))+dv (dig d)=d
 rw [dv_dig,dv_dig]
 omega
theorem text_of {s:List UInt8} (h:shB s=true):dText (yOf s) (mOf s) (dOf s)=s:=by
 unfold shB at h
 simp only [Bool.and_eq_true,beq_iff_eq] at h
 obtain ⟨hl,⟨⟨⟨⟨⟨⟨⟨⟨h0,h1⟩,h2⟩,h3⟩,h4⟩,h5⟩,h6⟩,h7⟩,h8⟩,h9⟩:=h
 have hl:=of_decide_eq_true hl
 match s,hl with
 | [b0,b1,b2,b3,b4,b5,b6,b7,b8,b9],_=>
  have h0:dgB b0=true:=h0
  have h1:dgB b1=true:=h1
  have h2:dgB b2=true:=h2
  have h3:dgB b3=true:=h3
  have h4:b4=45:=h4
  have h5:dgB b5=true:=h5
  have h6:dgB b6=true:=h6
  have h7:b7=45:=h7
  have h8:dgB b8=true:=h8
  have h9:dgB b9=true:=h9
  have a0:=dv_lt h0
  have a1:=dv_lt h1
  have a2:=dv_lt h2
  have a3:=dv_lt h3
  have a5:=dv_lt h5
  have a6:=dv_lt h6
  have a8:=dv_lt h8
  have a9:=dv_lt h9
  show dText (1000*dv b0+100*dv b1+10*dv b2+dv b3) (10*dv b5+dv b6) (10*dv b8+dv b9)=_
  unfold dText
  rw [dig_dv h0 (by omega),dig_dv h1 (by omega),dig_dv h2 (by omega),dig_dv h3 (by omega),dig_dv h5 (by omega),dig_dv h6 (by omega),dig_dv h8 (by omega),dig_dv h9 (by omega),h4,h7]
def shAt (i:Nat) (b:UInt8):Bool:=if i=4∨i=7 then b==45 else dgB b
theorem sh_iff {s:List UInt8} (hl:s.length=10):shB s=true↔ ∀i,i<10→shAt i (s.getD i 0)=true:=by
 unfold shB
 rw [decide_eq_true hl,Bool.true_and]
 simp only [Bool.and_eq_true]
 constructor
 ·rintro ⟨⟨⟨⟨⟨⟨⟨⟨⟨h0,h1⟩,h2⟩,h3⟩,h4⟩,h5⟩,h6⟩,h7⟩,h8⟩,h9⟩ i hi
  match i,hi with
  |0,_=>exact h0
  |1,_=>exact h1
  |2,_=>exact h2
  |3,_=>exact h3
  |4,_=>exact h4
  |5,_=>exact h5
  |6,_=>exact h6
  |7,_=>exact h7
  |8,_=>exact h8
  |9,_=>exact h9
 ·intro h
  exact ⟨⟨⟨⟨⟨⟨⟨⟨⟨h 0 (by decide),h 1 (by decide)⟩,h 2 (by decide)⟩,h 3 (by decide)⟩,h 4 (by decide)⟩,h 5 (by decide)⟩,h 6 (by decide)⟩,h 7 (by decide)⟩,h 8 (by decide)⟩,h 9 (by decide)⟩
end Go.Proofs.YtjpilacbapibjaaGreatDoor.Da
