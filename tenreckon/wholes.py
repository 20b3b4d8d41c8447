"""Products of many alike whole numbers."""


def product_of(whole, count):
    # By squares: exact values ask for some thousand tens.
    product = 1
    while count > 0:
        if count % 2 == 1:
            product = product * whole
        whole = whole * whole
        count = count // 2
    return product


def ten_to(count):
    return product_of(10, count)
