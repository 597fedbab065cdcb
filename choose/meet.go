package choose

import "foliot/api"

func Meet(l []api.Cand) (api.Span, api.Span, bool) {
	ends := Ends(l)
	count := len(ends) / endsOfOne
	for wrong := 0; 2*wrong < count; wrong++ {
		if low, high, found := points(ends, count-wrong, wrong); found {
			return low, high, true
		}
	}
	return 0, 0, false
}

// points are the outermost places that as many as right hold; they are found, if at most as many as wrong have their middles outside of them.
func points(ends []complex128, right, wrong int) (low, high api.Span, found bool) {
	held, outside := 0, 0
	for _, end := range ends {
		held -= kindOf(end)
		if held == right {
			low = spanOf(end)
			goto down
		}
		if kindOf(end) == kindMiddle {
			outside++
		}
	}
	return 0, 0, false
down:
	held = 0
	for i := range ends {
		end := ends[len(ends)-1-i]
		held += kindOf(end)
		if held == right {
			high = spanOf(end)
			goto both
		}
		if kindOf(end) == kindMiddle {
			outside++
		}
	}
both:
	// Points that are both reached never cross; that they do not is asked as P13.3 asks it.
	return low, high, outside <= wrong && low <= high
}
