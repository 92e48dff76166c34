package names

import "testing"

func TestDecimal(t *testing.T) {
	for s, want := range map[string]int{"0": 0, "7": 7, "10": 10, "2147483647": 2147483647} {
		if n, ok := Decimal(s); n != want || !ok {
			t.Error(s, n)
		}
	}
	for _, s := range []string{"", "00", "07", "-0", "-1", "+1", "1_0", "2147483648", "99999999999999999999", "1 ", "x", "١"} {
		if n, ok := Decimal(s); n != 0 || ok {
			t.Error(s, n)
		}
	}
}

func TestRead(t *testing.T) {
	for s, want := range map[string][2]int{
		"7": {Call, 7}, "7~": {Call, 7}, "19": {Call, 19}, "9:90/99": {Call, 9}, "7~~": {Call, 7}, "7:1": {Attempt, 7}, "7~:1": {Attempt, 7}, "7:1/0": {Call, 7},
		"7:1/0:2": {Attempt, 7}, "7:12/30~:4/5": {Call, 7}, "2147483647:2147483647/2147483647": {Call, 2147483647},
	} {
		if kind, req := Read(s); kind != want[0] || req != want[1] {
			t.Error(s, kind, req)
		}
	}
	for _, s := range []string{"", "0", "07", "-7", "7:", "7:0", "7:01", "7:1:1", "7/0", "7:1/", "7:1/00", "7:1~", "~7", "7:1/0/0", "7 ", "7:2147483648", "x", ":", "7:1/0:2/x"} {
		if kind, req := Read(s); kind != None || req != 0 {
			t.Error(s, kind, req)
		}
	}
}
