import Derived.Test.YtfnkchdeheeiiaaGreatDoorCKa
set_option linter.all false
set_option maxRecDepth 100000
set_option maxHeartbeats 200000
namespace Go.Proofs.YtfnkchdeheeiiaaGreatDoor
namespace In
set_option maxRecDepth 100000
def adp:((dG 2).all λl=>mC (0::0::0::l))=true:=qkr
def adq:((dG 2).all λl=>mC (0::0::1::l))=true:=qkr
def adr:((dG 2).all λl=>mC (0::0::2::l))=true:=qkr
def ads:((dG 2).all λl=>mC (0::1::0::l))=true:=qkr
def adt:((dG 2).all λl=>mC (0::1::1::l))=true:=qkr
def adu:((dG 2).all λl=>mC (0::1::2::l))=true:=qkr
def adv:((dG 2).all λl=>mC (0::2::0::l))=true:=qkr
def adw:((dG 2).all λl=>mC (0::2::1::l))=true:=qkr
def adx:((dG 2).all λl=>mC (0::2::2::l))=true:=qkr
end In
end Go.Proofs.YtfnkchdeheeiiaaGreatDoor
