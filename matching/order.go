package matching

// Ordered is a list in the order of instantiations. Those of the same weight and
// latest time stay as they are: Open lists them by rule and by writing already.
func Ordered(list []Instantiation) []Instantiation {
	if len(list) < 2 {
		return list
	}
	half := len(list) / 2
	left := Ordered(list[:half])
	right := Ordered(list[half:])
	return merged(left, right)
}

// merged takes one of the right list only if it comes ahead of all that are
// left of the left one, so that equals keep their order.
func merged(left []Instantiation, right []Instantiation) []Instantiation {
	var list []Instantiation
	l := 0
	r := 0
	for l < len(left) && r < len(right) {
		if ahead(right[r], left[l]) {
			list = append(list, right[r])
			r++
		} else {
			list = append(list, left[l])
			l++
		}
	}
	list = append(list, left[l:]...)
	return append(list, right[r:]...)
}

func ahead(a Instantiation, b Instantiation) bool {
	if a.Weight != b.Weight {
		return a.Weight > b.Weight
	}
	return a.Latest > b.Latest
}

// Write writes a list, with a `;` behind each.
func Write(list []Instantiation) string {
	var text []byte
	for _, one := range list {
		text = append(text, byte('0'+one.Rule))
		for i := 0; i < one.Count && i < len(one.Facts); i++ {
			fact := one.Facts[i].Text()
			text = append(text, fact...)
		}
		text = append(text, ';')
	}
	return string(text)
}
