package wire

// writer has what was written so far. Its numbers are cut to their width, so that those below 0 are in two's complement.
type writer struct {
	made []byte
}

func (w *writer) number(width int, n uint64) {
	for i := range width {
		w.made = append(w.made, byte(n>>(8*(width-1-i))))
	}
}

func (w *writer) bytes(b []byte) {
	w.made = append(w.made, b...)
}

func (w *writer) digest(key int, mac []byte) {
	if key != 0 {
		w.number(keyBytes, uint64(key))
		w.bytes(mac)
	}
}
