package sample

// dice are numbers one behind the other, all of which hang on the first state.
type dice struct {
	state uint64
}

// below is a number below n: the state goes on by a constant, and its bits are mixed.
func (d *dice) below(n int) int {
	d.state += 0x9e3779b97f4a7c15
	z := d.state
	z = (z ^ z>>30) * 0xbf58476d1ce4e5b9
	z = (z ^ z>>27) * 0x94d049bb133111eb
	return int((z ^ z>>31) % uint64(n))
}

// one tells yes in one of n cases.
func (d *dice) one(n int) bool {
	return d.below(n) == 0
}
